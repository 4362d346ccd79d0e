/- The texts SoPT SoPN SoPR SoPA SoPC SoPF SoPG SoPI SoPJ SoPK SoPL SoPM SoPO SoPS SoPU SoPV SoPW SoPX SgA SgB SgC SgD SgE SgF SgG SgH SgI SgJ SgK SgL SgM SgN SgO as one. -/
import Derived.Test.YtebmgajijjhinaaSoMath
/- Everybody is asked in turn: on lists. -/
namespace Go.Proofs.Ytebmgajijjhinaa.SO
set_option linter.unusedVariables false
set_option linter.unusedSimpArgs false

theorem f0_at : ∀ (n : Nat), n ≤ 6 → ∀ k : Int, f0 n k = if 1 ≤ k ∧ k ≤ n then some (k, 0, 0) else none
  | 0, _, k => by rw [if_neg (by omega)]; rfl
  | n + 1, h, k => by
    have ih := f0_at n (by omega)
    rw [f0_succ]
    have hn : K.news (f0 n) ((n : Int) + 1, 0, 0) = true := by
      unfold K.news
      have g : K.good ((n : Int) + 1, 0, 0) = true := by
        rw [K.good_iff]; unfold K.Good
        refine ⟨?_, ?_, ?_, ?_, ?_, ?_⟩ <;> (dsimp only; omega)
      rw [g]
      simp only [ih, Bool.true_and]
      rw [if_neg (by omega)]
    unfold K.stp
    rw [if_pos hn]
    simp only [ih]
    by_cases e : k = (n : Int) + 1
    · rw [if_pos e, if_pos (by omega), e]
    · rw [if_neg e]
      by_cases h1 : 1 ≤ k ∧ k ≤ (n : Int)
      · rw [if_pos h1, if_pos (by omega)]
      · rw [if_neg h1, if_neg (by omega)]
theorem cases6 {n : Nat} (h : n ≤ 6) : n = 0 ∨ n = 1 ∨ n = 2 ∨ n = 3 ∨ n = 4 ∨ n = 5 ∨ n = 6 := by omega
def upto (n : Nat) : List Int := (List.range n).map fun (i : Nat) => (i : Int) + 1
theorem mem_upto {n : Nat} {k : Int} : k ∈ upto n ↔ 1 ≤ k ∧ k ≤ n := by
  unfold upto
  rw [List.mem_map]
  constructor
  · rintro ⟨i, hi, rfl⟩; have := List.mem_range.1 hi; omega
  · intro h; exact ⟨(k - 1).toNat, List.mem_range.2 (by omega), by omega⟩
theorem pres_f0 {n : Nat} (h : n ≤ 6) : K.pres (f0 n) = upto n := by
  rcases cases6 h with rfl | rfl | rfl | rfl | rfl | rfl | rfl <;> decide
theorem all_f0 {n : Nat} (h : n ≤ 6) : K.all (f0 n) = (upto n).map fun k => (k, 0, 0) := by
  rcases cases6 h with rfl | rfl | rfl | rfl | rfl | rfl | rfl <;> decide
theorem upto_nodup {n : Nat} (h : n ≤ 6) : (upto n).Nodup := by
  rcases cases6 h with rfl | rfl | rfl | rfl | rfl | rfl | rfl <;> decide
/-- the others -/
def oth0 (me : Int) (n : Nat) : List Int := (upto n).filter (fun k => !(k == me))
theorem mem_oth0 {me : Int} {n : Nat} {k : Int} : k ∈ oth0 me n ↔ (1 ≤ k ∧ k ≤ n) ∧ k ≠ me := by
  unfold oth0
  rw [List.mem_filter, mem_upto]
  simp
theorem oth0_nodup (me : Int) {n : Nat} (h : n ≤ 6) : (oth0 me n).Nodup := (upto_nodup h).filter _
theorem oth0_len {me : Int} {n : Nat} (h : n ≤ 6) (h1 : 1 ≤ me) (h2 : me ≤ n) : (oth0 me n).length = n - 1 := by
  have hm : me = 1 ∨ me = 2 ∨ me = 3 ∨ me = 4 ∨ me = 5 ∨ me = 6 := by omega
  rcases cases6 h with rfl | rfl | rfl | rfl | rfl | rfl | rfl <;> rcases hm with rfl | rfl | rfl | rfl | rfl | rfl <;> first | decide | omega

/-- all are alive and nothing is told on -/
structure Calm (me : Int) (n : Nat) (s : Sc) : Prop where
  n6 : n ≤ 6
  hme : s.me = me
  m1 : 1 ≤ me
  m2 : me ≤ n
  hn : s.n = n
  f : s.f = f0 n
  F : s.F = HU.e0
  er : s.er = []
  ln : ∀ k ∈ s.line, k ∈ oth0 me n
theorem Calm.of {me : Int} {n : Nat} {s : Sc} (c : Calm me n s) {k : Int} (h : 1 ≤ k ∧ k ≤ n) : of s k = (k, 0, 0) := by
  unfold SO.of
  rw [c.f, f0_at n c.n6, if_pos h]; rfl
theorem Calm.left {me : Int} {n : Nat} {s : Sc} (c : Calm me n s) : left s = false := by
  unfold SO.left
  rw [c.hme, c.of ⟨c.m1, c.m2⟩]; rfl
theorem Calm.over {me : Int} {n : Nat} {s : Sc} (c : Calm me n s) : over s = s := by
  have h : those s (overdue s) = [] := by
    unfold those
    rw [c.f, all_f0 c.n6, List.map_eq_nil_iff, List.filter_eq_nil_iff]
    intro m hm
    obtain ⟨k, hk, rfl⟩ := List.mem_map.1 hm
    simp [overdue]
  unfold SO.over
  rw [h]; rfl
theorem Calm.isP {me : Int} {n : Nat} {s : Sc} (c : Calm me n s) {k : Int} (h : 1 ≤ k ∧ k ≤ n) : isP s k = true := by
  unfold SO.isP
  rw [c.f, pres_f0 c.n6, List.contains_iff_mem, mem_upto]; exact h
theorem Calm.sought {me : Int} {n : Nat} {s : Sc} (c : Calm me n s) : sought s = none := by
  have h : those s (fun m => !SO.isP s m.1) = [] := by
    unfold those
    rw [List.map_eq_nil_iff, List.filter_eq_nil_iff]
    intro m hm
    rw [c.f, all_f0 c.n6] at hm
    obtain ⟨k, hk, rfl⟩ := List.mem_map.1 hm
    rw [c.isP (mem_upto.1 hk)]; decide
  unfold SO.sought
  rw [h]
  split <;> rfl
theorem Calm.oth {me : Int} {n : Nat} {s : Sc} (c : Calm me n s) : oth s = oth0 me n := by
  unfold SO.oth oth0
  rw [c.f, pres_f0 c.n6, c.hme]
theorem swp_perm {l : List Int} {i j : Nat} (hi : i < l.length) (hj : j < l.length) : (swp l i j).Perm l := by
  unfold swp
  rw [show l.getD j 0 = l[j] by simp [List.getD, hj], show l.getD i 0 = l[i] by simp [List.getD, hi]]
  exact List.set_set_perm hi hj
theorem mixN_perm : ∀ (i : Nat) (l : List Int) (d : Int), i < l.length ∨ i = 0 → (mixN i l d).Perm l
  | 0, l, d, _ => List.Perm.refl _
  | i + 1, l, d, h => by
    have h' : i + 1 < l.length := by omega
    have hj : (d % ((i : Int) + 2)).toNat < l.length := by
      have h1 := Int.emod_nonneg d (show ((i : Int) + 2) ≠ 0 by omega)
      have h2 := Int.emod_lt_of_pos d (show (0 : Int) < (i : Int) + 2 by omega)
      omega
    have hs := swp_perm (l := l) (i := i + 1) (j := (d % ((i : Int) + 2)).toNat) h' hj
    exact (mixN_perm i _ _ (by rw [hs.length_eq]; omega)).trans hs
theorem mix_perm (l : List Int) (d : Int) : (mix l d).Perm l := mixN_perm _ l d (by omega)
theorem tell1_e0 {s : Sc} (h : s.F = HU.e0) (x : Fr) : tell1 s x = (s, { x with frm := s.me, rum := [] }) := by
  have h1 : HU.took s.F (HU.cnt s.F 6) = s.F := by
    funext i
    unfold HU.took
    rw [if_neg]
    unfold HU.inT
    rw [h, HU.tl_e0]; simp
  have h2 : HU.told s.F (HU.cnt s.F 6) = [] := by
    unfold HU.told
    rw [h, HU.tl_e0]; simp
  unfold tell1
  rw [h1, h2]
theorem tellS_e0 {s : Sc} (h : s.F = HU.e0) (x : Fr) : tellS s [x] = s := by
  show (tell1 s x).1 = s
  rw [tell1_e0 h]
theorem tellL_e0 {s : Sc} (h : s.F = HU.e0) (x : Fr) : tellL s [x] = [{ x with frm := s.me, rum := [] }] := by
  show [(tell1 s x).2] = _
  rw [tell1_e0 h]
theorem Calm.tick0 {me : Int} {n : Nat} {s : Sc} (c : Calm me n s) : Calm me n (tick0 s) := ⟨c.n6, c.hme, c.m1, c.m2, c.hn, c.f, c.F, c.er, c.ln⟩
theorem Calm.ask1 {me : Int} {n : Nat} {s : Sc} (c : Calm me n s) {r : List Int} (hr : ∀ k ∈ r, k ∈ oth0 me n) (k : Int) : Calm me n (ask1 { ask0 s with line := r } k) := ⟨c.n6, c.hme, c.m1, c.m2, c.hn, c.f, c.F, c.er, hr⟩
theorem Calm.ask0 {me : Int} {n : Nat} {s : Sc} (c : Calm me n s) : Calm me n (ask0 s) := ⟨c.n6, c.hme, c.m1, c.m2, c.hn, c.f, c.F, c.er, c.ln⟩
theorem Calm.nextL {me : Int} {n : Nat} {s : Sc} (c : Calm me n s) (h2 : 2 ≤ n) (d : Int) : ∃ x r, nextL s d = (some x, { s with line := r }) ∧ (s.line = x :: r ∨ s.line = [] ∧ (x :: r).Perm (oth0 me n)) ∧ x ∈ oth0 me n ∧ ∀ k ∈ r, k ∈ oth0 me n := by
  unfold SO.nextL
  cases hl : s.line with
  | cons x r =>
    have hx := c.ln x (by rw [hl]; exact List.mem_cons_self)
    have hd : (x :: r).dropWhile (fun k => !SO.isP s k) = x :: r := by
      rw [List.dropWhile_cons, if_neg]
      rw [c.isP (mem_oth0.1 hx).1]; decide
    rw [hd]
    exact ⟨x, r, rfl, Or.inl rfl, hx, fun k hk => c.ln k (by rw [hl]; exact List.mem_cons_of_mem _ hk)⟩
  | nil =>
    rw [List.dropWhile_nil]
    have hp := mix_perm (SO.oth s) d
    rw [c.oth] at hp ⊢
    have hlen := oth0_len c.n6 c.m1 c.m2
    cases hm : mix (oth0 me n) d with
    | nil => rw [hm] at hp; have := hp.length_eq; simp at this; omega
    | cons x r =>
      rw [hm] at hp
      exact ⟨x, r, rfl, Or.inr ⟨rfl, hp⟩, hp.mem_iff.1 List.mem_cons_self, fun k hk => hp.mem_iff.1 (List.mem_cons_of_mem _ hk)⟩
theorem Calm.tick_ask {me : Int} {n : Nat} {s : Sc} (c : Calm me n s) (h2 : 2 ≤ n) (d : Int) (h4 : s.now.tmod 4 = 0) : ∃ x r, (s.line = x :: r ∨ s.line = [] ∧ (x :: r).Perm (oth0 me n)) ∧ x ∈ oth0 me n ∧ (tick s d).2 = [⟨x, 1, me, s.seq + 1, 0, []⟩] ∧ Calm me n (tick s d).1 ∧ (tick s d).1.line = r ∧ (tick s d).1.pn = x ∧ (tick s d).1.ps = s.seq + 1 ∧ (tick s d).1.now = s.now + 1 := by
  have c1 := c.tick0
  have c2 := c1.ask0
  obtain ⟨x, r, hn, hl, hx, hr⟩ := c2.nextL h2 d
  have c3 : Calm me n (SO.ask1 { SO.ask0 (SO.tick0 s) with line := r } x) := c1.ask1 hr x
  have hm : mid (SO.tick0 s) d = (SO.ask1 { SO.ask0 (SO.tick0 s) with line := r } x, [⟨x, 1, me, s.seq + 1, 0, []⟩]) := by
    unfold mid
    have e : (SO.tick0 s).now - 1 = s.now := by show s.now + 1 - 1 = _; omega
    rw [e, if_pos h4]
    unfold ask
    rw [c2.sought]
    simp only [hn]
    rw [tellS_e0 c3.F, tellL_e0 c3.F]
    have := c3.hme
    rw [this]; rfl
  have ht : tick s d = (SO.ask1 { SO.ask0 (SO.tick0 s) with line := r } x, [⟨x, 1, me, s.seq + 1, 0, []⟩]) := by
    unfold tick
    rw [c1.left, if_neg (by decide), hm]
    simp only [c3.over]
  rw [ht]
  exact ⟨x, r, hl, hx, rfl, c3, rfl, rfl, rfl, rfl⟩
theorem Calm.pa {me : Int} {n : Nat} {s : Sc} (c : Calm me n s) : Calm me n { s with pa := true } := ⟨c.n6, c.hme, c.m1, c.m2, c.hn, c.f, c.F, c.er, c.ln⟩
theorem Calm.hear {me : Int} {n : Nat} {s : Sc} (c : Calm me n s) {x q dst : Int} (hx : x ∈ oth0 me n) (h1 : s.pn = x) (h2 : s.ps = q) : hear s ⟨dst, 2, x, q, x, []⟩ = ({ s with pa := true }, []) := by
  have hx' := mem_oth0.1 hx
  have ho : other s x = true := by
    unfold other
    rw [c.hn, c.hme]
    simp [hx'.1.1, hx'.1.2, hx'.2]
  have hh : heed s ⟨dst, 2, x, q, x, []⟩ = s := by
    unfold heed
    rw [c.of hx'.1]; rfl
  have hp : pHear s ⟨dst, 2, x, q, x, []⟩ = { s with pa := true } := by
    unfold pHear
    rw [h1, h2]; simp
  unfold SO.hear
  rw [hh, if_pos ho]
  show (if SO.left s = true then _ else _) = _
  rw [c.left, if_neg (by decide)]
  unfold act
  rw [if_neg (show ¬ (2 : Int) = 1 by decide), if_neg (show ¬ (2 : Int) = 3 by decide), if_pos rfl]
  show ackE (pHear s _) _ = _
  rw [hp]
  unfold ackE
  rw [show ({ s with pa := true } : Sc).er = [] from c.er]
  rfl
theorem Calm.tick_rest {me : Int} {n : Nat} {s : Sc} (c : Calm me n s) (hp : s.pa = true) (d : Int) (h4 : s.now.tmod 4 ≠ 0) : tick s d = (SO.tick0 s, []) := by
  have c1 := c.tick0
  have ho : isOpen (SO.tick0 s) = false := by
    unfold isOpen
    rw [show (SO.tick0 s).pa = true from hp]; simp
  have hm : mid (SO.tick0 s) d = (SO.tick0 s, []) := by
    unfold mid
    have e : (SO.tick0 s).now - 1 = s.now := by show s.now + 1 - 1 = _; omega
    rw [e, if_neg h4]
    split
    · unfold askH; rw [ho]; rfl
    · split
      · unfold doubt; rw [ho]; rfl
      · rfl
  unfold tick
  rw [c1.left, if_neg (by decide), hm]
  simp only [c1.over]
theorem calm_new {me : Int} {n : Nat} (h : n ≤ 6) (h1 : 1 ≤ me) (h2 : me ≤ n) : Calm me n (new me n) := ⟨h, rfl, h1, h2, rfl, rfl, rfl, rfl, fun k hk => by cases hk⟩
end Go.Proofs.Ytebmgajijjhinaa.SO

/- Where a turn stands, on lists. -/
namespace Go.Proofs.Ytebmgajijjhinaa
set_option linter.unusedVariables false
set_option linter.unusedSimpArgs false

/-- where a turn stands -/
structure Tn (me : Int) (n : Nat) (s : SO.Sc) (tt k i : Nat) (seen : List Int) : Prop where
  c : SO.Calm me n s
  n2 : 2 ≤ n
  now : s.now = tt
  m : tt % 4 = i % 4
  ls : (k = 0 ∧ i = 0 ∧ s.line = [] ∧ seen = []) ∨ ∃ P : List Int, P.Perm (SO.oth0 me n) ∧ s.line = P.drop (if i = 0 then k else k + 1) ∧ seen = P.take (if i = 0 then k else k + 1) ∧ 1 ≤ (if i = 0 then k else k + 1)
  pa : i ≠ 0 → s.pa = true
theorem tmod4 {tt : Nat} {s : SO.Sc} (h : s.now = tt) : s.now.tmod 4 = ((tt % 4 : Nat) : Int) := by
  rw [h, Int.tmod_eq_emod_of_nonneg (by omega)]; omega
theorem Tn.ask {me : Int} {n : Nat} {s : SO.Sc} {tt k : Nat} {seen : List Int} (h : Tn me n s tt k 0 seen) (hk : k + 1 < n) (d : Int) : ∃ x sq, (SO.tick s d).2 = [⟨x, 1, me, sq, 0, []⟩] ∧ sq = s.seq + 1 ∧ 1 ≤ x ∧ x ≤ n ∧ x ≠ me ∧ seen.contains x = false ∧ Tn me n (SO.hear (SO.tick s d).1 ⟨0, 2, x, sq, x, []⟩).1 (tt + 1) k 1 (seen ++ [x]) := by
  have h4 : s.now.tmod 4 = 0 := by rw [tmod4 h.now, h.m]; rfl
  obtain ⟨x, r, hl, hx, h1, c1, l1, p1, q1, n1⟩ := h.c.tick_ask h.n2 d h4
  have hx' := SO.mem_oth0.1 hx
  have hh := c1.hear (dst := 0) hx p1 q1
  have key : ∃ P : List Int, P.Perm (SO.oth0 me n) ∧ r = P.drop (k + 1) ∧ seen ++ [x] = P.take (k + 1) ∧ P[k]? = some x := by
    rcases h.ls with ⟨rfl, _, e1, e2⟩ | ⟨P, hP, e1, e2, e3⟩
    · rcases hl with hl | ⟨_, hp⟩
      · rw [e1] at hl; cases hl
      · exact ⟨x :: r, hp, rfl, by rw [e2]; rfl, rfl⟩
    · rw [if_pos rfl] at e1 e2 e3
      rcases hl with hl | ⟨hl, _⟩
      · rw [e1] at hl
        have hk0 : P[k]? = some x := by
          have := congrArg (fun l : List Int => l[0]?) hl
          simpa using this
        refine ⟨P, hP, ?_, ?_, hk0⟩
        · have := congrArg (fun l : List Int => l.drop 1) hl
          simp only [List.drop_drop] at this
          exact this.symm
        · rw [List.take_add_one, hk0, e2]; rfl
      · rw [e1] at hl
        have := congrArg List.length hl
        rw [List.length_drop, hP.length_eq, SO.oth0_len h.c.n6 h.c.m1 h.c.m2] at this
        simp at this; omega
  obtain ⟨P, hP, e1, e2, e3⟩ := key
  refine ⟨x, s.seq + 1, h1, rfl, hx'.1.1, hx'.1.2, hx'.2, ?_, ?_⟩
  · have hs : seen = P.take k := by
      have := congrArg (fun l : List Int => l.take k) e2
      rw [List.take_take, show min k (k + 1) = k by omega] at this
      rw [← this]
      have hlk : seen.length = k := by
        have := congrArg List.length e2
        rw [List.length_append, List.length_take, hP.length_eq, SO.oth0_len h.c.n6 h.c.m1 h.c.m2] at this
        simp at this; omega
      rw [List.take_append_of_le_length (by omega), ← hlk, List.take_length]
    rw [Bool.eq_false_iff]
    intro hc
    rw [List.contains_iff_mem, hs] at hc
    obtain ⟨j, hj, hj2⟩ := List.mem_take_iff_getElem.1 hc
    have nd : P.Nodup := hP.nodup_iff.2 (SO.oth0_nodup me h.c.n6)
    obtain ⟨hk2, hk3⟩ := List.getElem?_eq_some_iff.1 e3
    have := (List.getElem?_inj (i := j) (j := k) (by omega) nd).1 (by rw [e3, ← hj2]; exact List.getElem?_eq_getElem (by omega))
    omega
  · rw [hh]
    refine ⟨c1.pa, h.n2, ?_, by have := h.m; omega, Or.inr ⟨P, hP, ?_, ?_, by simp⟩, fun _ => rfl⟩
    · show (SO.tick s d).1.now = _
      rw [n1, h.now]; omega
    · show (SO.tick s d).1.line = _
      rw [l1, e1]; rfl
    · rw [e2]; rfl
theorem Tn.rest {me : Int} {n : Nat} {s : SO.Sc} {tt k i : Nat} {seen : List Int} (h : Tn me n s tt k i seen) (hi : 1 ≤ i) (h4 : i < 4) (d : Int) : (SO.tick s d).2 = [] ∧ Tn me n (SO.tick s d).1 (tt + 1) k (i + 1) seen := by
  have hm : s.now.tmod 4 ≠ 0 := by rw [tmod4 h.now, h.m]; omega
  have ht := h.c.tick_rest (h.pa (by omega)) d hm
  rw [ht]
  refine ⟨rfl, h.c.tick0, h.n2, ?_, by have := h.m; omega, ?_, fun _ => h.pa (by omega)⟩
  · show s.now + 1 = _
    rw [h.now]; omega
  · rcases h.ls with ⟨_, e, _⟩ | h1
    · omega
    · right
      rw [if_neg (by omega)] at h1 ⊢
      exact h1
theorem Tn.next {me : Int} {n : Nat} {s : SO.Sc} {tt k : Nat} {seen : List Int} (h : Tn me n s tt k 4 seen) : Tn me n s tt (k + 1) 0 seen := by
  refine ⟨h.c, h.n2, h.now, by have := h.m; omega, ?_, fun e => absurd rfl e⟩
  rcases h.ls with ⟨_, e, _⟩ | h1
  · omega
  · right
    rw [if_neg (by omega)] at h1
    rw [if_pos rfl]
    exact h1
theorem Tn.turn {me : Int} {n : Nat} {s : SO.Sc} {tt k : Nat} {seen : List Int} (h : Tn me n s tt k 0 seen) (hk : k + 1 = n) : Tn me n s tt 0 0 [] := by
  refine ⟨h.c, h.n2, h.now, h.m, Or.inl ⟨rfl, rfl, ?_, rfl⟩, fun e => absurd rfl e⟩
  rcases h.ls with ⟨e, _⟩ | ⟨P, hP, e1, _⟩
  · have := h.n2; omega
  · rw [e1, if_pos rfl]
    apply List.drop_eq_nil_of_le
    rw [hP.length_eq, SO.oth0_len h.c.n6 h.c.m1 h.c.m2]; omega
theorem tn_new {me : Int} {n : Nat} (h : n ≤ 6) (h0 : 2 ≤ n) (h1 : 1 ≤ me) (h2 : me ≤ n) : Tn me n (SO.new me n) 0 0 0 [] := ⟨SO.calm_new h h1 h2, h0, rfl, rfl, Or.inl ⟨rfl, rfl, rfl, rfl⟩, fun e => absurd rfl e⟩
end Go.Proofs.Ytebmgajijjhinaa

/- What is known only rises: on lists. -/
namespace Go.Proofs.Ytebmgajijjhinaa.SO
set_option linter.unusedVariables false
set_option linter.unusedSimpArgs false

theorem above_trans {a b c : K.Me} (h : K.above a b = true) (k : K.above b c = true) : K.above a c = true := by
  have h := of_decide_eq_true h
  have k := of_decide_eq_true k
  exact decide_eq_true ⟨h.1, k.2.1, h.2.2.1.trans k.2.2.1, K.hi_trans h.2.2.2 k.2.2.2⟩
/-- what is known of each node has risen or stayed -/
def Rise (f g : K.Vw) : Prop := ∀ k, (f k = none ∧ g k = none) ∨ ∃ m m', f k = some m ∧ g k = some m' ∧ (m' = m ∨ K.above m' m = true)
theorem Rise.refl (f : K.Vw) : Rise f f := fun k => by
  cases h : f k with
  | none => exact Or.inl ⟨rfl, rfl⟩
  | some m => exact Or.inr ⟨m, m, rfl, rfl, Or.inl rfl⟩
theorem Rise.trans {f g h : K.Vw} (a : Rise f g) (b : Rise g h) : Rise f h := fun k => by
  rcases a k with ⟨a1, a2⟩ | ⟨m, m', a1, a2, a3⟩
  · rcases b k with ⟨b1, b2⟩ | ⟨x, x', b1, b2, b3⟩
    · exact Or.inl ⟨a1, b2⟩
    · rw [a2] at b1; cases b1
  · rcases b k with ⟨b1, b2⟩ | ⟨x, x', b1, b2, b3⟩
    · rw [a2] at b1; cases b1
    · rw [a2] at b1; cases b1
      refine Or.inr ⟨m, x', a1, b2, ?_⟩
      rcases a3 with rfl | a3
      · exact b3
      · rcases b3 with rfl | b3
        · exact Or.inr a3
        · exact Or.inr (above_trans b3 a3)
def Dom (n : Nat) (f : K.Vw) : Prop := ∀ k : Int, (∃ m, f k = some m) ↔ 1 ≤ k ∧ k ≤ n
theorem Rise.dom {n : Nat} {f g : K.Vw} (r : Rise f g) (d : Dom n f) : Dom n g := fun k => by
  rw [← d k]
  rcases r k with ⟨a, b⟩ | ⟨m, m', a, b, _⟩
  · rw [a, b]
  · exact ⟨fun _ => ⟨m, a⟩, fun _ => ⟨m', b⟩⟩
theorem rise_stp {f : K.Vw} {m : K.Me} (h : ∃ o, f m.1 = some o) : Rise f (K.stp f m) := by
  obtain ⟨o, ho⟩ := h
  unfold K.stp
  split
  · rename_i hn
    intro k
    by_cases e : k = m.1
    · subst e
      refine Or.inr ⟨o, m, ho, if_pos rfl, Or.inr ?_⟩
      unfold K.news at hn
      rw [Bool.and_eq_true, ho] at hn
      exact hn.2
    · simp only [if_neg e]
      exact Rise.refl f k
  · exact Rise.refl f
/-- a scout in order: has it left? -/
structure RI (me : Int) (n : Nat) (l : Bool) (s : Sc) : Prop where
  n6 : n ≤ 6
  hme : s.me = me
  m1 : 1 ≤ me
  m2 : me ≤ n
  hn : s.n = n
  ok : K.Ok s.f
  dom : Dom n s.f
  st : (of s me).2.2 = if l = true then 3 else 0
  pn : s.pn ≠ me ∧ 0 ≤ s.pn ∧ s.pn ≤ n
  ln : ∀ k ∈ s.line, k ≠ me ∧ 1 ≤ k ∧ k ≤ n
theorem RI.of {me : Int} {n : Nat} {l : Bool} {s : Sc} (x : RI me n l s) {k : Int} (h : 1 ≤ k ∧ k ≤ n) : ∃ m, s.f k = some m ∧ of s k = m ∧ m.1 = k ∧ K.Good m := by
  obtain ⟨m, hm⟩ := (x.dom k).2 h
  refine ⟨m, hm, ?_, (x.ok k m hm).2, (x.ok k m hm).1⟩
  unfold SO.of; rw [hm]; rfl
theorem RI.left {me : Int} {n : Nat} {l : Bool} {s : Sc} (x : RI me n l s) : left s = l := by
  unfold SO.left
  rw [x.hme, x.st]
  cases l <;> rfl
theorem RI.like {me : Int} {n : Nat} {l : Bool} {s s' : Sc} (x : RI me n l s) (h1 : s'.me = s.me) (h2 : s'.n = s.n) (h3 : s'.f = s.f) (h4 : s'.pn ≠ me ∧ 0 ≤ s'.pn ∧ s'.pn ≤ n) (h5 : ∀ k ∈ s'.line, k ≠ me ∧ 1 ≤ k ∧ k ≤ n) : RI me n l s' ∧ Rise s.f s'.f := by
  refine ⟨⟨x.n6, h1.trans x.hme, x.m1, x.m2, h2.trans x.hn, by rw [h3]; exact x.ok, by rw [h3]; exact x.dom, ?_, h4, h5⟩, by rw [h3]; exact Rise.refl _⟩
  have := x.st
  unfold SO.of at *
  rw [h3]; exact this
theorem learn_f (s : Sc) (m : K.Me) : (learn s m).f = K.stp s.f m ∧ (learn s m).me = s.me ∧ (learn s m).n = s.n ∧ (learn s m).pn = s.pn ∧ (learn s m).line = s.line ∧ (learn s m).now = s.now := by
  unfold learn
  split
  · exact ⟨rfl, rfl, rfl, rfl, rfl, rfl⟩
  · rename_i h
    unfold K.stp
    rw [if_neg h]; exact ⟨rfl, rfl, rfl, rfl, rfl, rfl⟩
theorem stp_other {f : K.Vw} {m : K.Me} {k : Int} (h : k ≠ m.1) : K.stp f m k = f k := by
  unfold K.stp
  split
  · simp only [if_neg h]
  · rfl
theorem RI.learn {me : Int} {n : Nat} {l : Bool} {s : Sc} (x : RI me n l s) (m : K.Me) (h : 1 ≤ m.1 ∧ m.1 ≤ n) (hne : m.1 ≠ me) : RI me n l (learn s m) ∧ Rise s.f (learn s m).f := by
  obtain ⟨e1, e2, e3, e4, e5, _⟩ := learn_f s m
  have hr : Rise s.f (SO.learn s m).f := by rw [e1]; exact rise_stp ((x.dom m.1).2 h)
  refine ⟨⟨x.n6, e2.trans x.hme, x.m1, x.m2, e3.trans x.hn, by rw [e1]; exact K.ok_stp x.ok m, hr.dom x.dom, ?_, by rw [e4]; exact x.pn, by rw [e5]; exact x.ln⟩, hr⟩
  have := x.st
  unfold SO.of at *
  rw [e1, stp_other (fun e => hne e.symm)]; exact this
theorem RI.turn {me : Int} {n : Nat} {l : Bool} {s : Sc} (x : RI me n l s) (k st : Int) (h : 1 ≤ k ∧ k ≤ n) (hne : k ≠ me) : RI me n l (turn s k st) ∧ Rise s.f (turn s k st).f := by
  obtain ⟨m, h1, h2, h3, h4⟩ := x.of h
  unfold SO.turn
  rw [h2]
  exact x.learn _ (by show 1 ≤ m.1 ∧ m.1 ≤ _; rw [h3]; exact h) (by show m.1 ≠ me; rw [h3]; exact hne)
theorem RI.gone {me : Int} {n : Nat} {l : Bool} : ∀ (ks : List Int) {s : Sc} (x : RI me n l s), (∀ k ∈ ks, (1 ≤ k ∧ k ≤ n) ∧ k ≠ me) → RI me n l (gone s ks) ∧ Rise s.f (gone s ks).f
  | [], s, x, _ => ⟨x, Rise.refl _⟩
  | k :: r, s, x, h => by
    obtain ⟨a, b⟩ := x.turn k 2 (h k List.mem_cons_self).1 (h k List.mem_cons_self).2
    obtain ⟨c, d⟩ := RI.gone r a (fun j hj => h j (List.mem_cons_of_mem _ hj))
    exact ⟨c, b.trans d⟩
theorem RI.those {me : Int} {n : Nat} {l : Bool} {s : Sc} (x : RI me n l s) {p : K.Me → Bool} {k : Int} (h : k ∈ those s p) : (1 ≤ k ∧ k ≤ n) ∧ ∃ m, s.f k = some m ∧ SO.of s k = m ∧ m.1 = k ∧ p m = true := by
  unfold SO.those at h
  obtain ⟨m, hm, rfl⟩ := List.mem_map.1 h
  obtain ⟨h1, h2⟩ := List.mem_filter.1 hm
  have h3 := (K.all_of x.ok h1).1
  refine ⟨(x.dom m.1).1 ⟨m, h3⟩, m, h3, ?_, rfl, h2⟩
  unfold SO.of; rw [h3]; rfl
theorem RI.over {me : Int} {n : Nat} {l : Bool} {s : Sc} (x : RI me n l s) : RI me n l (over s) ∧ Rise s.f (over s).f := by
  refine x.gone _ (fun k hk => ?_)
  obtain ⟨h1, m, h2, h3, h4, h5⟩ := x.those hk
  refine ⟨h1, fun e => ?_⟩
  subst e
  have := x.st
  rw [h3] at this
  unfold overdue at h5
  rw [this] at h5
  cases l <;> simp at h5
theorem tellS_like : ∀ (fs : List Fr) (s : Sc), (tellS s fs).me = s.me ∧ (tellS s fs).n = s.n ∧ (tellS s fs).f = s.f ∧ (tellS s fs).pn = s.pn ∧ (tellS s fs).line = s.line
  | [], s => ⟨rfl, rfl, rfl, rfl, rfl⟩
  | y :: r, s => tellS_like r (tell1 s y).1
theorem RI.tell {me : Int} {n : Nat} {l : Bool} {s : Sc} (x : RI me n l s) (fs : List Fr) : RI me n l (tellS s fs) ∧ Rise s.f (tellS s fs).f := by
  obtain ⟨a, b, c, d, e⟩ := tellS_like fs s
  exact x.like a b c (by rw [d]; exact x.pn) (by rw [e]; exact x.ln)
theorem RI.isP {me : Int} {n : Nat} {s : Sc} (x : RI me n false s) : isP s me = true := by
  obtain ⟨m, h1, h2, h3, h4⟩ := x.of ⟨x.m1, x.m2⟩
  have := x.st
  rw [h2] at this
  unfold SO.isP K.pres
  rw [List.contains_iff_mem]
  refine List.mem_map.2 ⟨m, List.mem_filter.2 ⟨K.all_mem x.ok h1, ?_⟩, h3⟩
  unfold K.here
  rw [this]; rfl
theorem RI.ask {me : Int} {n : Nat} {s : Sc} (x : RI me n false s) (d : Int) : RI me n false (ask s d).1 ∧ Rise s.f (ask s d).1.f := by
  have x0 := x.like (s' := ask0 s) rfl rfl rfl (by show (0 : Int) ≠ me ∧ (0 : Int) ≤ 0 ∧ (0 : Int) ≤ n; have := x.m1; omega) x.ln
  unfold SO.ask
  cases hs : sought (ask0 s) with
  | some k =>
    have hk : k ≠ me ∧ 0 ≤ k ∧ k ≤ n := by
      unfold sought at hs
      split at hs
      · cases hs
      · obtain ⟨hr, m, h2, h3, h4, h5⟩ := x0.1.those (List.mem_of_getElem? hs)
        refine ⟨fun e => ?_, by omega, hr.2⟩
        subst e
        rw [h4, x0.1.isP] at h5; cases h5
    have y := x.like (s' := ask1 (remind (ask0 s) k) k) rfl rfl rfl hk x.ln
    obtain ⟨a, b⟩ := y.1.tell [ping k (s.seq + 1)]
    exact ⟨a, y.2.trans b⟩
  | none =>
    have hne : ∀ k, k ∈ mix (oth (ask0 s)) d → k ≠ me ∧ 1 ≤ k ∧ k ≤ n := fun k hk => by
      have := (mix_perm _ d).mem_iff.1 hk
      unfold oth at this
      obtain ⟨h1, h2⟩ := List.mem_filter.1 this
      refine ⟨fun e => ?_, ?_⟩
      · rw [show (ask0 s).me = me from x.hme, e] at h2
        simp at h2
      · unfold K.pres at h1
        obtain ⟨m, hm, rfl⟩ := List.mem_map.1 h1
        exact (x.dom _).1 ⟨m, (K.all_of x.ok (List.mem_filter.1 hm).1).1⟩
    have hnl : ∀ k s', nextL (ask0 s) d = (some k, s') → (k ≠ me ∧ 1 ≤ k ∧ k ≤ n) ∧ s'.me = s.me ∧ s'.n = s.n ∧ s'.f = s.f ∧ ∀ j ∈ s'.line, j ≠ me ∧ 1 ≤ j ∧ j ≤ n := fun k s' h => by
      unfold nextL at h
      cases hd : (ask0 s).line.dropWhile (fun k => !SO.isP (ask0 s) k) with
      | cons y r =>
        rw [hd] at h
        simp only [Prod.mk.injEq, Option.some.injEq] at h
        obtain ⟨rfl, rfl⟩ := h
        have sub := List.dropWhile_sublist (l := (ask0 s).line) (fun k => !SO.isP (ask0 s) k)
        rw [hd] at sub
        exact ⟨x.ln _ (sub.subset List.mem_cons_self), rfl, rfl, rfl, fun j hj => x.ln j (sub.subset (List.mem_cons_of_mem _ hj))⟩
      | nil =>
        rw [hd] at h
        cases hm : mix (oth (ask0 s)) d with
        | cons y r =>
          rw [hm] at h
          simp only [Prod.mk.injEq, Option.some.injEq] at h
          obtain ⟨rfl, rfl⟩ := h
          exact ⟨hne _ (by rw [hm]; exact List.mem_cons_self), rfl, rfl, rfl, fun j hj => hne j (by rw [hm]; exact List.mem_cons_of_mem _ hj)⟩
        | nil => rw [hm] at h; simp at h
    have hn0 : ∀ s', nextL (ask0 s) d = (none, s') → s' = { ask0 s with line := [] } := fun s' h => by
      unfold nextL at h
      cases hd : (ask0 s).line.dropWhile (fun k => !SO.isP (ask0 s) k) with
      | cons y r => rw [hd] at h; simp at h
      | nil =>
        rw [hd] at h
        cases hm : mix (oth (ask0 s)) d with
        | cons y r => rw [hm] at h; simp at h
        | nil => rw [hm] at h; simp at h; exact h.symm
    rcases hx : nextL (ask0 s) d with ⟨o, s'⟩
    cases o with
    | some k =>
      obtain ⟨g1, g2, g3, g4, g5⟩ := hnl k s' hx
      have y := x.like (s' := ask1 s' k) g2 g3 g4 (by show k ≠ me ∧ 0 ≤ k ∧ k ≤ n; omega) g5
      obtain ⟨a, b⟩ := y.1.tell [ping k (s.seq + 1)]
      exact ⟨a, y.2.trans b⟩
    | none =>
      rw [hn0 s' hx]
      exact x.like (s' := { ask0 s with line := [] }) rfl rfl rfl (by show (0 : Int) ≠ me ∧ (0 : Int) ≤ 0 ∧ (0 : Int) ≤ n; have := x.m1; omega) (fun k hk => by cases hk)
theorem RI.mid {me : Int} {n : Nat} {s : Sc} (x : RI me n false s) (d : Int) : RI me n false (mid s d).1 ∧ Rise s.f (mid s d).1.f := by
  unfold SO.mid
  split
  · exact x.ask d
  · split
    · unfold askH
      split
      · have y := x.like (s' := { s with ph := helpers s }) rfl rfl rfl x.pn x.ln
        obtain ⟨a, b⟩ := y.1.tell ((helpers s).map (fun h => askF h s.ps s.pn))
        exact ⟨a, y.2.trans b⟩
      · exact ⟨x, Rise.refl _⟩
    · split
      · show RI me n false (doubt s) ∧ Rise s.f (doubt s).f
        unfold doubt
        split
        · rename_i h
          have : s.pn ≠ 0 := fun e => by rw [e] at h; simp [isOpen, e] at h
          have h6 := x.pn
          exact x.turn _ _ (by omega) x.pn.1
        · exact ⟨x, Rise.refl _⟩
      · exact ⟨x, Rise.refl _⟩
theorem RI.tick {me : Int} {n : Nat} {l : Bool} {s : Sc} (x : RI me n l s) (d : Int) : RI me n l (tick s d).1 ∧ Rise s.f (tick s d).1.f := by
  have x0 := x.like (s' := tick0 s) rfl rfl rfl x.pn x.ln
  unfold SO.tick
  rw [x0.1.left]
  cases l with
  | true => exact x0
  | false =>
    rw [if_neg (by decide)]
    obtain ⟨a, b⟩ := x0.1.mid d
    obtain ⟨c, e⟩ := a.over
    exact ⟨c, b.trans e⟩
theorem RI.rum {me : Int} {n : Nat} {l : Bool} {s : Sc} (x : RI me n l s) (m : K.Me) : RI me n l (rum s m) ∧ Rise s.f (rum s m).f := by
  have h1 : RI me n l (rum1 s m) ∧ Rise s.f (rum1 s m).f := by
    unfold rum1
    split
    · rename_i h
      unfold other at h
      rw [x.hn, x.hme] at h
      simp only [Bool.and_eq_true, decide_eq_true_eq, Bool.not_eq_true', beq_eq_false_iff_ne] at h
      exact x.learn m h.1 h.2
    · exact ⟨x, Rise.refl _⟩
  unfold SO.rum
  split
  · exact h1
  · rename_i h
    rw [h1.1.left] at h
    simp only [Bool.or_eq_true, Bool.not_eq_true', beq_eq_false_iff_ne, not_or, Bool.not_eq_true] at h
    obtain ⟨_, rfl⟩ := h
    have h2 : RI me n false (rum2 (rum1 s m) m) ∧ Rise (rum1 s m).f (rum2 (rum1 s m) m).f := by
      unfold rum2
      split
      · exact h1.1.like (s' := remind _ _) rfl rfl rfl h1.1.pn h1.1.ln
      · exact ⟨h1.1, Rise.refl _⟩
    generalize rum2 (rum1 s m) m = t at *
    have h3 : RI me n false (rum3 t m) ∧ Rise t.f (rum3 t m).f := by
      unfold rum3
      split
      · rename_i h
        have y := h2.1
        obtain ⟨e1, e2, e3, e4, e5, _⟩ := learn_f t (t.me, m.2.1 + 1, 0)
        have hr : Rise t.f (SO.learn t (t.me, m.2.1 + 1, 0)).f := by rw [e1]; exact rise_stp ((y.dom _).2 (by show 1 ≤ t.me ∧ t.me ≤ _; rw [y.hme]; exact ⟨y.m1, y.m2⟩))
        refine ⟨⟨y.n6, e2.trans y.hme, y.m1, y.m2, e3.trans y.hn, by rw [e1]; exact K.ok_stp y.ok _, hr.dom y.dom, ?_, by rw [e4]; exact y.pn, by rw [e5]; exact y.ln⟩, hr⟩
        have := y.st
        unfold SO.of at *
        rw [e1]
        unfold K.stp
        split
        · rw [← y.hme]; simp
        · exact this
      · exact ⟨h2.1, Rise.refl _⟩
    exact ⟨h3.1, (h1.2.trans h2.2).trans h3.2⟩
theorem RI.rums {me : Int} {n : Nat} {l : Bool} : ∀ (ms : List K.Me) {s : Sc} (x : RI me n l s), RI me n l (rums s ms) ∧ Rise s.f (rums s ms).f
  | [], s, x => ⟨x, Rise.refl _⟩
  | m :: r, s, x => by
    obtain ⟨a, b⟩ := x.rum m
    obtain ⟨c, d⟩ := RI.rums r a
    exact ⟨c, b.trans d⟩
theorem pHear_like (s : Sc) (f : Fr) : (pHear s f).me = s.me ∧ (pHear s f).n = s.n ∧ (pHear s f).f = s.f ∧ (pHear s f).pn = s.pn ∧ (pHear s f).line = s.line := by unfold pHear; split <;> exact ⟨rfl, rfl, rfl, rfl, rfl⟩
theorem RI.act {me : Int} {n : Nat} {l : Bool} {s : Sc} (x : RI me n l s) (f : Fr) : RI me n l (act s f).1 ∧ Rise s.f (act s f).1.f := by
  unfold SO.act
  split
  · exact x.tell _
  · split
    · unfold errand
      split
      · have y := x.like (s' := { s with seq := s.seq + 1, er := addE s.er ⟨s.seq + 1, f.node, f.frm, f.seq, false⟩ }) rfl rfl rfl x.pn x.ln
        obtain ⟨a, b⟩ := y.1.tell [ping f.node (s.seq + 1)]
        exact ⟨a, y.2.trans b⟩
      · exact ⟨x, Rise.refl _⟩
    · split
      · obtain ⟨g1, g2, g3, g4, g5⟩ := pHear_like s f
        have y := x.like g1 g2 g3 (by rw [g4]; exact x.pn) (by rw [g5]; exact x.ln)
        unfold ackE
        split
        · rename_i e _
          have z := x.like (s' := { pHear s f with er := closeL f (pHear s f).er }) g1 g2 g3 (by rw [g4]; exact x.pn) (by rw [g5]; exact x.ln)
          obtain ⟨a, b⟩ := z.1.tell [ack e.asker e.asked e.node]
          exact ⟨a, z.2.trans b⟩
        · exact y
      · exact ⟨x, Rise.refl _⟩
theorem RI.heed {me : Int} {n : Nat} {l : Bool} {s : Sc} (x : RI me n l s) (f : Fr) : RI me n l (heed s f) ∧ Rise s.f (heed s f).f := by
  unfold SO.heed
  split
  · exact ⟨x, Rise.refl _⟩
  · exact x.like (s' := remind _ _) rfl rfl rfl x.pn x.ln
theorem RI.hear {me : Int} {n : Nat} {l : Bool} {s : Sc} (x : RI me n l s) (f : Fr) : RI me n l (hear s f).1 ∧ Rise s.f (hear s f).1.f := by
  unfold SO.hear
  split
  · obtain ⟨a, b⟩ := x.heed f
    obtain ⟨c, d⟩ := RI.rums f.rum a
    split
    · exact ⟨c, b.trans d⟩
    · obtain ⟨g, h⟩ := c.act f
      exact ⟨g, (b.trans d).trans h⟩
  · exact ⟨x, Rise.refl _⟩
theorem RI.answers {me : Int} {n : Nat} {l : Bool} {s : Sc} (x : RI me n l s) (f : Fr) (hk : f.kind = 1) : (SO.hear s f).2.length = if (!l && (decide (1 ≤ f.frm) && decide (f.frm ≤ n) && !(f.frm == me))) = true then 1 else 0 := by
  have ho : other s f.frm = (decide (1 ≤ f.frm) && decide (f.frm ≤ n) && !(f.frm == me)) := by unfold other; rw [x.hn, x.hme]
  unfold SO.hear
  rw [← ho]
  cases h : other s f.frm with
  | false => simp
  | true =>
    obtain ⟨a, b⟩ := x.heed f
    obtain ⟨c, d⟩ := RI.rums f.rum a
    rw [if_pos rfl, c.left]
    cases l with
    | true => rfl
    | false =>
      rw [if_neg (by decide)]
      unfold SO.act
      rw [if_pos hk]; rfl
theorem RI.leave {me : Int} {n : Nat} {l : Bool} {s : Sc} (x : RI me n l s) : RI me n true (leave s).1 ∧ Rise s.f (leave s).1.f := by
  unfold SO.leave
  rw [x.left]
  cases l with
  | true => exact ⟨x, Rise.refl _⟩
  | false =>
    rw [if_neg (by decide)]
    obtain ⟨m, h1, h2, h3, h4⟩ := x.of ⟨x.m1, x.m2⟩
    have hst := x.st
    rw [h2] at hst
    have ht : SO.turn s s.me 3 = SO.learn s (m.1, m.2.1, 3) := by unfold SO.turn; rw [x.hme, h2]
    obtain ⟨e1, e2, e3, e4, e5, _⟩ := learn_f s (m.1, m.2.1, 3)
    have hr : Rise s.f (SO.learn s (m.1, m.2.1, 3)).f := by rw [e1]; exact rise_stp ((x.dom _).2 (by show 1 ≤ m.1 ∧ m.1 ≤ _; rw [h3]; exact ⟨x.m1, x.m2⟩))
    have hn : K.news s.f (m.1, m.2.1, 3) = true := by
      unfold K.Good at h4
      have g : K.good (m.1, m.2.1, 3) = true := (K.good_iff _).2 ⟨h4.1, h4.2.1, h4.2.2.1, h4.2.2.2.1, by dsimp only; omega, by dsimp only; omega⟩
      unfold K.news
      rw [g]
      have h1' : s.f m.1 = some m := by rw [h3]; exact h1
      simp only [h1', Bool.true_and]
      rw [if_neg (by decide)] at hst
      refine decide_eq_true ⟨(K.good_iff _).1 g, ?_, rfl, Or.inr ⟨rfl, ?_⟩⟩
      · unfold K.Good; exact h4
      · show (3 : Int) > m.2.2; omega
    have y : RI me n true (SO.learn s (m.1, m.2.1, 3)) := by
      refine ⟨x.n6, e2.trans x.hme, x.m1, x.m2, e3.trans x.hn, by rw [e1]; exact K.ok_stp x.ok _, hr.dom x.dom, ?_, by rw [e4]; exact x.pn, by rw [e5]; exact x.ln⟩
      unfold SO.of
      rw [e1]
      unfold K.stp
      rw [if_pos hn]
      simp only [h3, if_pos]
      rfl
    rw [ht]
    obtain ⟨a, b⟩ := y.tell ((oth (SO.learn s (m.1, m.2.1, 3))).map (fun k => ack k 0 s.me))
    exact ⟨a, hr.trans b⟩
theorem dom_f0 {n : Nat} (h : n ≤ 6) : Dom n (f0 n) := fun k => by
  rw [f0_at n h]
  split
  · rename_i h1; exact ⟨fun _ => h1, fun _ => ⟨_, rfl⟩⟩
  · rename_i h1
    exact ⟨fun ⟨m, hm⟩ => (by cases hm), fun h2 => absurd h2 h1⟩
theorem ri_new {me : Int} {n : Nat} (h : n ≤ 6) (h1 : 1 ≤ me) (h2 : me ≤ n) : RI me n false (new me n) := by
  refine ⟨h, rfl, h1, h2, rfl, ?_, dom_f0 h, ?_, by show (0 : Int) ≠ me ∧ (0 : Int) ≤ 0 ∧ (0 : Int) ≤ n; omega, fun k hk => by cases hk⟩
  · intro k m hm
    change f0 n k = some m at hm
    rw [f0_at n h] at hm
    split at hm
    · cases hm; exact ⟨by unfold K.Good; refine ⟨?_, ?_, ?_, ?_, ?_, ?_⟩ <;> (dsimp only; omega), rfl⟩
    · cases hm
  · unfold SO.of
    show ((f0 n me).getD (0, 0, 0)).2.2 = _
    rw [f0_at n h, if_pos ⟨h1, h2⟩]; rfl
/-- of a scout in order all nodes' words are known, by rising nodes -/
theorem all_dom {n : Nat} {f : K.Vw} (h : n ≤ 6) (d : Dom n f) : (K.all f).length = n ∧ ∀ k, k < n → (K.all f)[k]? = f ((k : Int) + 1) := by
  have key : ∀ j : Nat, (K.allN f j).length = min j n ∧ ∀ k, k < min j n → (K.allN f j)[k]? = f ((k : Int) + 1) := by
    intro j
    induction j with
    | zero => exact ⟨by simp [K.allN], fun k hk => by omega⟩
    | succ j ih =>
      obtain ⟨i1, i2⟩ := ih
      rw [K.allN_succ]
      cases hf : f ((j : Int) + 1) with
      | none =>
        have : ¬ (1 ≤ (j : Int) + 1 ∧ (j : Int) + 1 ≤ n) := fun h => by obtain ⟨m, hm⟩ := (d _).2 h; rw [hf] at hm; cases hm
        simp only [Option.toList_none, List.append_nil]
        rw [show min (j + 1) n = min j n by omega]
        exact ⟨i1, i2⟩
      | some m =>
        have : (1 ≤ (j : Int) + 1 ∧ (j : Int) + 1 ≤ n) := (d _).1 ⟨m, hf⟩
        simp only [Option.toList_some, List.length_append, List.length_singleton]
        refine ⟨by omega, fun k hk => ?_⟩
        by_cases hkj : k < j
        · rw [List.getElem?_append_left (by omega)]
          exact i2 k (by omega)
        · have e : k = j := by omega
          subst e
          rw [List.getElem?_append_right (by omega), i1, hf]
          simp [show k - min k n = 0 by omega]
  have := key 6
  rw [show min 6 n = n by omega] at this
  exact this
end Go.Proofs.Ytebmgajijjhinaa.SO

/- The law's first look at a scout, on lists. -/
namespace Go.Proofs.Ytebmgajijjhinaa.SO
set_option linter.unusedVariables false
set_option linter.unusedSimpArgs false

def wa : Nat → Sc
  | 0 => new 1 2
  | k + 1 => (tick (wa k) 0).1
def hf : Fr := ⟨0, 1, 2, 7, 0, [(1, 0, 1)]⟩
def wb : Nat → Sc
  | 0 => (hear (wa 4) hf).1
  | k + 1 => (tick (wb k) 0).1
def look (f : Fr) : Int × Int × Int × Int × Int := (f.dst, f.kind, f.frm, f.seq, f.node)
theorem wa_1 : (tick (wa 0) 0).2.map look = [(2, 1, 1, 1, 0)] := rfl
theorem wa_2 : (tick (wa 1) 0).2.length = 0 := rfl
theorem wa_3 : (tick (wa 2) 0).2.length = 0 := rfl
theorem wa_4 : K.all (wa 4).f = [(1, 0, 0), (2, 0, 1)] := by decide
theorem wb_0 : (hear (wa 4) hf).2.map look = [(2, 2, 1, 7, 1)] := rfl
theorem wb_8 : of (wb 8) 1 = (1, 1, 0) := by decide
theorem wb_p : K.pres (wb 8).f = [1] := by decide
end Go.Proofs.Ytebmgajijjhinaa.SO

/- A camp's round, on lists. -/
namespace Go.Proofs.Ytebmgajijjhinaa.SO
set_option linter.unusedVariables false
set_option linter.unusedSimpArgs false

/-- one scout's state is another one -/
def up (ss : Nat → Sc) (i : Nat) (s : Sc) : Nat → Sc := fun j => if j = i then s else ss j
/-- a node ticks -/
def tk1 (dr : Nat → Int) (S : (Nat → Sc) × List Fr) (i : Nat) : (Nat → Sc) × List Fr := (up S.1 i (tick (S.1 i) (dr i)).1, S.2 ++ (tick (S.1 i) (dr i)).2)
def rT (sil : Nat → Bool) (dr : Nat → Int) (S : (Nat → Sc) × List Fr) : Nat → (Nat → Sc) × List Fr
  | 0 => S
  | k + 1 => if sil (k + 1) = true then rT sil dr S k else tk1 dr (rT sil dr S k) (k + 1)
/-- a frame comes -/
def hr1 (sil : Nat → Bool) (S : (Nat → Sc) × List Fr) : (Nat → Sc) × List Fr :=
  match S.2 with
  | [] => S
  | f :: r => if (!sil f.dst.toNat && !sil f.frm.toNat) = true then (up S.1 f.dst.toNat (hear (S.1 f.dst.toNat) f).1, r ++ (hear (S.1 f.dst.toNat) f).2) else (S.1, r)
def rH (sil : Nat → Bool) (S : (Nat → Sc) × List Fr) : Nat → (Nat → Sc) × List Fr
  | 0 => S
  | k + 1 => hr1 sil (rH sil S k)
structure GoodF (n : Nat) (f : Fr) : Prop where
  d1 : 1 ≤ f.dst
  d2 : f.dst ≤ n
  f1 : 1 ≤ f.frm
  f2 : f.frm ≤ n
  r6 : f.rum.length ≤ 6
  rg : ∀ m ∈ f.rum, K.Good m
/-- a round goes well -/
structure GoodR (n : Nat) (sil : Nat → Bool) (dr : Nat → Int) (ss : Nat → Sc) (ss' : Nat → Sc) : Prop where
  t : ∀ k, k ≤ n → (rT sil dr (ss, []) k).2.length ≤ 1000
  g : ∀ k f r, (rH sil (rT sil dr (ss, []) n) k).2 = f :: r → GoodF n f ∧ r.length + (hear ((rH sil (rT sil dr (ss, []) n) k).1 f.dst.toNat) f).2.length ≤ 1000
  e : ∃ K, K ≤ 500 ∧ rH sil (rT sil dr (ss, []) n) K = (ss', []) ∧ ∀ j, j < K → (rH sil (rT sil dr (ss, []) n) j).2 ≠ []
end Go.Proofs.Ytebmgajijjhinaa.SO

/- Who does not answer is found: on lists. -/
namespace Go.Proofs.Ytebmgajijjhinaa.SO
set_option linter.unusedVariables false
set_option linter.unusedSimpArgs false

/-- a word about one who is silent -/
def QW (n : Nat) (Q : Nat → Bool) (m : K.Me) : Prop := ∃ (j : Nat) (st : Int), 1 ≤ j ∧ j ≤ n ∧ Q j = true ∧ m = ((j : Int), 0, st) ∧ 0 ≤ st ∧ st ≤ 2
theorem QW.good {n : Nat} {Q : Nat → Bool} {m : K.Me} (h6 : n ≤ 6) (h : QW n Q m) : K.Good m := by
  obtain ⟨j, st, h1, h2, _, rfl, h4, h5⟩ := h
  unfold K.Good
  refine ⟨?_, ?_, ?_, ?_, ?_, ?_⟩ <;> (dsimp only; omega)
/-- what a scout knows where some are silent -/
structure Vu (n : Nat) (Q : Nat → Bool) (i : Nat) (s : Sc) : Prop where
  n6 : n ≤ 6
  i1 : 1 ≤ i
  i2 : i ≤ n
  qi : Q i = false
  hme : s.me = i
  hn : s.n = n
  dm : ∀ k : Int, ¬ (1 ≤ k ∧ k ≤ n) → s.f k = none
  wd : ∀ k : Nat, 1 ≤ k → k ≤ n → ∃ st : Int, s.f k = some ((k : Int), 0, st) ∧ 0 ≤ st ∧ st ≤ 2 ∧ (Q k = false → st = 0)
  fw : ∀ k, 0 < (s.F k).2 → QW n Q (s.F k).1
  ln : ∀ k ∈ s.line, k ∈ oth0 i n
  pn : 0 ≤ s.pn ∧ s.pn ≤ n ∧ s.pn ≠ i
  ea : ∀ e ∈ s.er, 1 ≤ e.asker ∧ e.asker ≤ n
  el : s.er.length ≤ 16
theorem told_mem {F : HU.St} {c : Nat} {m : K.Me} (h : m ∈ HU.told F c) : ∃ k, 0 < (F k).2 ∧ m = (F k).1 := by
  unfold HU.told at h
  obtain ⟨r, hr, rfl⟩ := List.mem_map.1 h
  have h1 := List.mem_of_mem_take hr
  unfold HU.tl at h1
  have h2 := List.mem_mergeSort.1 h1
  unfold HU.lf at h2
  obtain ⟨h3, h4⟩ := List.mem_filter.1 h2
  obtain ⟨k, _, rfl⟩ := List.mem_map.1 h3
  exact ⟨k, of_decide_eq_true h4, rfl⟩
theorem told_len (F : HU.St) (c : Nat) : (HU.told F c).length ≤ 6 := by
  unfold HU.told
  rw [List.length_map]
  refine Nat.le_trans (List.length_take_le' _ _) ?_
  unfold HU.tl
  rw [List.length_mergeSort]
  unfold HU.lf
  refine Nat.le_trans (List.length_filter_le _ _) ?_
  rw [List.length_map]; decide
theorem Vu.told {n : Nat} {Q : Nat → Bool} {i : Nat} {s : Sc} (x : Vu n Q i s) {c : Nat} {m : K.Me} (h : m ∈ HU.told s.F c) : QW n Q m := by
  obtain ⟨k, h1, rfl⟩ := told_mem h
  exact x.fw k h1
/-- the same but for what is not looked at -/
theorem Vu.like {n : Nat} {Q : Nat → Bool} {i : Nat} {s s' : Sc} (x : Vu n Q i s) (h1 : s'.me = s.me) (h2 : s'.n = s.n) (h3 : s'.f = s.f) (h4 : ∀ k, 0 < (s'.F k).2 → QW n Q (s'.F k).1) (h5 : ∀ k ∈ s'.line, k ∈ oth0 i n) (h6 : 0 ≤ s'.pn ∧ s'.pn ≤ n ∧ s'.pn ≠ i) (h7 : ∀ e ∈ s'.er, 1 ≤ e.asker ∧ e.asker ≤ n) (h8 : s'.er.length ≤ 16) : Vu n Q i s' :=
  ⟨x.n6, x.i1, x.i2, x.qi, h1.trans x.hme, h2.trans x.hn, by rw [h3]; exact x.dm, by rw [h3]; exact x.wd, h4, h5, h6, h7, h8⟩
theorem Vu.of {n : Nat} {Q : Nat → Bool} {i : Nat} {s : Sc} (x : Vu n Q i s) {k : Nat} (h1 : 1 ≤ k) (h2 : k ≤ n) : ∃ st : Int, of s k = ((k : Int), 0, st) ∧ s.f k = some ((k : Int), 0, st) ∧ 0 ≤ st ∧ st ≤ 2 ∧ (Q k = false → st = 0) := by
  obtain ⟨st, h3, h4⟩ := x.wd k h1 h2
  refine ⟨st, ?_, h3, h4⟩
  unfold SO.of; rw [h3]; rfl
theorem Vu.left {n : Nat} {Q : Nat → Bool} {i : Nat} {s : Sc} (x : Vu n Q i s) : left s = false := by
  obtain ⟨st, h1, _, _, _, h2⟩ := x.of x.i1 x.i2
  unfold SO.left
  rw [x.hme, h1, h2 x.qi]; rfl
theorem took_w (F : HU.St) (c : Nat) (k : Int) : (HU.took F c k).1 = (F k).1 ∧ (HU.took F c k).2 ≤ (F k).2 := by
  unfold HU.took
  split
  · exact ⟨rfl, by show (F k).2 - 1 ≤ _; omega⟩
  · exact ⟨rfl, Int.le_refl _⟩
theorem Vu.tell1 {n : Nat} {Q : Nat → Bool} {i : Nat} {s : Sc} (x : Vu n Q i s) (y : Fr) : Vu n Q i (tell1 s y).1 := by
  refine x.like rfl rfl rfl (fun k hk => ?_) x.ln x.pn x.ea x.el
  obtain ⟨h1, h2⟩ := took_w s.F (HU.cnt s.F 6) k
  show QW n Q (HU.took s.F (HU.cnt s.F 6) k).1
  rw [h1]
  exact x.fw k (by have : 0 < (HU.took s.F (HU.cnt s.F 6) k).2 := hk; omega)
theorem Vu.tellS {n : Nat} {Q : Nat → Bool} {i : Nat} : ∀ (l : List Fr) {s : Sc}, Vu n Q i s → Vu n Q i (tellS s l)
  | [], s, x => x
  | y :: r, s, x => Vu.tellS r (x.tell1 y)
/-- a frame that is under way -/
structure FW (n : Nat) (Q : Nat → Bool) (i : Nat) (f : Fr) : Prop where
  frm : f.frm = i
  d1 : 1 ≤ f.dst
  d2 : f.dst ≤ n
  rw : ∀ m ∈ f.rum, QW n Q m
  r6 : f.rum.length ≤ 6
theorem Vu.tellL {n : Nat} {Q : Nat → Bool} {i : Nat} : ∀ (l : List Fr) {s : Sc}, Vu n Q i s → (∀ y ∈ l, 1 ≤ y.dst ∧ y.dst ≤ n) → ∀ f ∈ tellL s l, FW n Q i f
  | [], s, x, h, f, hf => by cases hf
  | y :: r, s, x, h, f, hf => by
    rcases List.mem_cons.1 hf with rfl | hf
    · have hy := h y List.mem_cons_self
      exact ⟨x.hme, hy.1, hy.2, fun m hm => x.told hm, told_len _ _⟩
    · exact Vu.tellL r (x.tell1 y) (fun y hy => h y (List.mem_cons_of_mem _ hy)) f hf
theorem put_fw {n : Nat} {Q : Nat → Bool} {F : HU.St} {m : K.Me} (h : ∀ k, 0 < (F k).2 → QW n Q (F k).1) (hm : QW n Q m) : ∀ k, 0 < (HU.put 5 F m k).2 → QW n Q (HU.put 5 F m k).1 := fun k hk => by
  unfold HU.put at hk ⊢
  split at hk
  · rename_i hg
    rw [if_pos hg]
    unfold HU.set1 at hk ⊢
    split at hk
    · rename_i e; rw [if_pos e]; exact hm
    · rename_i e; rw [if_neg e]; exact h k hk
  · rename_i hg
    rw [if_neg hg]
    exact h k hk
theorem Vu.remind {n : Nat} {Q : Nat → Bool} {i : Nat} {s : Sc} (x : Vu n Q i s) {k : Nat} (h1 : 1 ≤ k) (h2 : k ≤ n) (hq : Q k = true) : Vu n Q i (remind s k) := by
  obtain ⟨st, e, _, s1, s2, _⟩ := x.of h1 h2
  refine x.like rfl rfl rfl (put_fw x.fw ?_) x.ln x.pn x.ea x.el
  rw [e]
  exact ⟨k, st, h1, h2, hq, rfl, s1, s2⟩
theorem Vu.learn {n : Nat} {Q : Nat → Bool} {i : Nat} {s : Sc} (x : Vu n Q i s) {m : K.Me} (hm : QW n Q m) : Vu n Q i (learn s m) := by
  unfold SO.learn
  split
  · rename_i hn
    obtain ⟨j, st, h1, h2, h3, rfl, h4, h5⟩ := id hm
    have hs : K.stp s.f ((j : Int), 0, st) = fun k => if k = (j : Int) then some ((j : Int), 0, st) else s.f k := by unfold K.stp; rw [if_pos hn]
    refine ⟨x.n6, x.i1, x.i2, x.qi, x.hme, x.hn, fun k hk => ?_, fun k k1 k2 => ?_, put_fw x.fw hm, x.ln, x.pn, x.ea, x.el⟩
    · show K.stp s.f ((j : Int), 0, st) k = none
      rw [hs]
      show (if k = (j : Int) then _ else _) = none
      rw [if_neg (by omega)]
      exact x.dm k hk
    · show ∃ st', K.stp s.f ((j : Int), 0, st) k = _ ∧ _
      rw [hs]
      by_cases e : k = j
      · subst e
        refine ⟨st, if_pos rfl, h4, h5, fun h => by rw [h3] at h; cases h⟩
      · obtain ⟨st', g1, g2⟩ := x.wd k k1 k2
        refine ⟨st', ?_, g2⟩
        show (if (k : Int) = (j : Int) then _ else _) = _
        rw [if_neg (by omega)]; exact g1
  · exact x
theorem Vu.turn {n : Nat} {Q : Nat → Bool} {i : Nat} {s : Sc} (x : Vu n Q i s) {k : Nat} (h1 : 1 ≤ k) (h2 : k ≤ n) (hq : Q k = true) {st : Int} (s1 : 0 ≤ st) (s2 : st ≤ 2) : Vu n Q i (turn s k st) := by
  obtain ⟨st', e, _⟩ := x.of h1 h2
  unfold SO.turn
  rw [e]
  exact x.learn ⟨k, st, h1, h2, hq, rfl, s1, s2⟩
theorem Vu.rum {n : Nat} {Q : Nat → Bool} {i : Nat} {s : Sc} (x : Vu n Q i s) {m : K.Me} (hm : QW n Q m) : Vu n Q i (rum s m) := by
  have hne : ¬ (m.1 == s.me) = true := by
    obtain ⟨j, st, h1, h2, h3, rfl, _⟩ := id hm
    rw [x.hme, beq_iff_eq]
    intro e
    have e' : (j : Int) = (i : Int) := e
    have : j = i := by omega
    rw [this, x.qi] at h3; cases h3
  have h1 : Vu n Q i (rum1 s m) := by
    unfold rum1
    split
    · exact x.learn hm
    · exact x
  unfold SO.rum
  rw [if_pos (by simp at hne ⊢; exact Or.inl hne)]
  exact h1
theorem Vu.rums {n : Nat} {Q : Nat → Bool} {i : Nat} : ∀ (l : List K.Me) {s : Sc}, Vu n Q i s → (∀ m ∈ l, QW n Q m) → Vu n Q i (rums s l)
  | [], s, x, _ => x
  | m :: r, s, x, h => Vu.rums r (x.rum (h m List.mem_cons_self)) (fun y hy => h y (List.mem_cons_of_mem _ hy))
theorem closeL_ea {f : Fr} {n : Nat} : ∀ {l : List Er}, (∀ e ∈ l, 1 ≤ e.asker ∧ e.asker ≤ n) → ∀ e ∈ closeL f l, 1 ≤ e.asker ∧ e.asker ≤ n
  | [], h, e, he => by cases he
  | a :: r, h, e, he => by
    unfold closeL at he
    split at he
    · rcases List.mem_cons.1 he with rfl | he
      · exact h a List.mem_cons_self
      · exact h e (List.mem_cons_of_mem _ he)
    · rcases List.mem_cons.1 he with rfl | he
      · exact h e List.mem_cons_self
      · exact closeL_ea (fun e he => h e (List.mem_cons_of_mem _ he)) e he
theorem addE_len {l : List Er} (a : Er) (h : l.length ≤ 16) : (addE l a).length ≤ 16 := by
  unfold addE
  split
  · rw [List.length_drop, List.length_append, List.length_singleton]; omega
  · rw [List.length_append, List.length_singleton]; omega
theorem closeL_length (f : Fr) : ∀ l : List Er, (closeL f l).length = l.length
  | [] => rfl
  | e :: r => by
    unfold closeL
    split
    · rfl
    · rw [List.length_cons, closeL_length f r, List.length_cons]
theorem addE_mem {l : List Er} {a e : Er} (h : e ∈ addE l a) : e ∈ l ∨ e = a := by
  unfold addE at h
  have h' : e ∈ l ++ [a] := by
    split at h
    · exact List.mem_of_mem_drop h
    · exact h
  rcases List.mem_append.1 h' with h | h
  · exact Or.inl h
  · exact Or.inr (List.mem_singleton.1 h)
theorem Vu.other {n : Nat} {Q : Nat → Bool} {i : Nat} {s : Sc} (x : Vu n Q i s) {k : Int} : other s k = true ↔ 1 ≤ k ∧ k ≤ n ∧ k ≠ i := by
  unfold SO.other
  rw [x.hn, x.hme]
  simp only [Bool.and_eq_true, decide_eq_true_eq, Bool.not_eq_true', beq_eq_false_iff_ne, and_assoc]
/-- a frame of an active one comes -/
theorem Vu.heed {n : Nat} {Q : Nat → Bool} {i j : Nat} {s : Sc} (x : Vu n Q i s) {f : Fr} (hf : FW n Q j f) (j1 : 1 ≤ j) (j2 : j ≤ n) (hj : Q j = false) : heed s f = s := by
  obtain ⟨st, e, _, _, _, h⟩ := x.of j1 j2
  unfold SO.heed
  rw [hf.frm, e, h hj]; rfl
theorem Vu.act {n : Nat} {Q : Nat → Bool} {i j : Nat} {s : Sc} (x : Vu n Q i s) {f : Fr} (hf : FW n Q j f) (j1 : 1 ≤ j) (j2 : j ≤ n) : Vu n Q i (act s f).1 ∧ ∀ g ∈ (act s f).2, FW n Q i g := by
  unfold SO.act
  split
  · exact ⟨x.tellS _, x.tellL _ (fun y hy => by simp at hy; subst hy; show 1 ≤ f.frm ∧ f.frm ≤ n; rw [hf.frm]; omega)⟩
  · split
    · unfold errand
      split
      · rename_i h
        rw [Bool.and_eq_true, x.other] at h
        have y := x.like (s' := { s with seq := s.seq + 1, er := addE s.er ⟨s.seq + 1, f.node, f.frm, f.seq, false⟩ }) rfl rfl rfl x.fw x.ln x.pn (fun e he => by
          rcases addE_mem he with he | rfl
          · exact x.ea e he
          · show 1 ≤ f.frm ∧ f.frm ≤ n; rw [hf.frm]; omega) (addE_len _ x.el)
        exact ⟨y.tellS _, y.tellL _ (fun z hz => by simp at hz; subst hz; exact ⟨h.1.1, h.1.2.1⟩)⟩
      · exact ⟨x, fun g hg => by cases hg⟩
    · split
      · have hp : Vu n Q i (pHear s f) := by
          obtain ⟨g1, g2, g3, g4, g5⟩ := pHear_like s f
          have g6 : (pHear s f).F = s.F := by unfold pHear; split <;> rfl
          have g7 : (pHear s f).er = s.er := by unfold pHear; split <;> rfl
          exact x.like g1 g2 g3 (by rw [g6]; exact x.fw) (by rw [g5]; exact x.ln) (by rw [g4]; exact x.pn) (by rw [g7]; exact x.ea) (by rw [g7]; exact x.el)
        unfold ackE
        split
        · rename_i e he
          have hm := List.mem_of_find?_eq_some he
          have y := hp.like (s' := { pHear s f with er := closeL f (pHear s f).er }) rfl rfl rfl hp.fw hp.ln hp.pn (closeL_ea hp.ea) (by show (closeL f (pHear s f).er).length ≤ 16; rw [closeL_length]; exact hp.el)
          exact ⟨y.tellS _, y.tellL _ (fun z hz => by simp at hz; subst hz; exact hp.ea e hm)⟩
        · exact ⟨hp, fun g hg => by cases hg⟩
      · exact ⟨x, fun g hg => by cases hg⟩
theorem Vu.hear {n : Nat} {Q : Nat → Bool} {i j : Nat} {s : Sc} (x : Vu n Q i s) {f : Fr} (hf : FW n Q j f) (j1 : 1 ≤ j) (j2 : j ≤ n) (hj : Q j = false) : Vu n Q i (hear s f).1 ∧ ∀ g ∈ (hear s f).2, FW n Q i g := by
  unfold SO.hear
  split
  · rw [x.heed hf j1 j2 hj]
    have y := Vu.rums f.rum x hf.rw
    rw [y.left, if_neg (by decide)]
    exact y.act hf j1 j2
  · exact ⟨x, fun g hg => by cases hg⟩
/-- who isn't present is silent -/
theorem Vu.absent {n : Nat} {Q : Nat → Bool} {i : Nat} {s : Sc} (x : Vu n Q i s) {p : K.Me → Bool} {k : Int} (h : k ∈ those s p) : ∃ j : Nat, k = j ∧ 1 ≤ j ∧ j ≤ n ∧ ∃ st : Int, p ((j : Int), 0, st) = true ∧ s.f j = some ((j : Int), 0, st) ∧ 0 ≤ st ∧ st ≤ 2 ∧ (Q j = false → st = 0) := by
  unfold those at h
  obtain ⟨m, hm, rfl⟩ := List.mem_map.1 h
  obtain ⟨h1, h2⟩ := List.mem_filter.1 hm
  unfold K.all K.allN at h1
  obtain ⟨q, hq, hf⟩ := List.mem_filterMap.1 h1
  by_cases hr : 1 ≤ ((q : Int) + 1) ∧ ((q : Int) + 1) ≤ n
  · obtain ⟨st, g1, g2⟩ := x.wd (q + 1) (by omega) (by omega)
    have e : (((q + 1 : Nat) : Int)) = (q : Int) + 1 := by omega
    rw [e] at g1
    rw [g1] at hf
    cases hf
    refine ⟨q + 1, by omega, by omega, by omega, st, ?_, ?_, g2⟩
    · rw [e]; exact h2
    · rw [e]; exact g1
  · rw [x.dm _ hr] at hf; cases hf
theorem pres_those (s : Sc) : K.pres s.f = those s K.here := rfl
theorem Vu.oth {n : Nat} {Q : Nat → Bool} {i : Nat} {s : Sc} (x : Vu n Q i s) {k : Int} (h : k ∈ oth s) : k ∈ oth0 i n := by
  unfold SO.oth at h
  obtain ⟨h1, h2⟩ := List.mem_filter.1 h
  rw [pres_those] at h1
  obtain ⟨j, rfl, j1, j2, _⟩ := x.absent h1
  rw [x.hme] at h2
  exact mem_oth0.2 ⟨⟨by omega, by omega⟩, by simpa using h2⟩
theorem nextL_some {s s' : Sc} {d k : Int} (h : nextL s d = (some k, s')) : ∃ r, s' = { s with line := r } ∧ (k ∈ s.line ∨ k ∈ oth s) ∧ ∀ j ∈ r, j ∈ s.line ∨ j ∈ oth s := by
  unfold nextL at h
  cases hd : s.line.dropWhile (fun k => !isP s k) with
  | cons y r =>
    rw [hd] at h
    simp only [Prod.mk.injEq, Option.some.injEq] at h
    obtain ⟨rfl, rfl⟩ := h
    have sub := List.dropWhile_sublist (l := s.line) (fun k => !isP s k)
    rw [hd] at sub
    exact ⟨r, rfl, Or.inl (sub.subset List.mem_cons_self), fun j hj => Or.inl (sub.subset (List.mem_cons_of_mem _ hj))⟩
  | nil =>
    rw [hd] at h
    cases hm : mix (SO.oth s) d with
    | cons y r =>
      rw [hm] at h
      simp only [Prod.mk.injEq, Option.some.injEq] at h
      obtain ⟨rfl, rfl⟩ := h
      have hp := mix_perm (SO.oth s) d
      rw [hm] at hp
      exact ⟨r, rfl, Or.inr (hp.mem_iff.1 List.mem_cons_self), fun j hj => Or.inr (hp.mem_iff.1 (List.mem_cons_of_mem _ hj))⟩
    | nil => rw [hm] at h; simp at h
theorem nextL_none {s s' : Sc} {d : Int} (h : nextL s d = (none, s')) : s' = { s with line := [] } ∧ SO.oth s = [] := by
  unfold nextL at h
  cases hd : s.line.dropWhile (fun k => !isP s k) with
  | cons y r => rw [hd] at h; simp at h
  | nil =>
    rw [hd] at h
    cases hm : mix (SO.oth s) d with
    | cons y r => rw [hm] at h; simp at h
    | nil =>
      rw [hm] at h
      simp at h
      have hp := mix_perm (SO.oth s) d
      rw [hm] at hp
      exact ⟨h.symm, hp.symm.eq_nil⟩
/-- who is sought is silent -/
theorem Vu.sought {n : Nat} {Q : Nat → Bool} {i : Nat} {s : Sc} (x : Vu n Q i s) {k : Int} (h : sought s = some k) : ∃ j : Nat, k = j ∧ 1 ≤ j ∧ j ≤ n ∧ Q j = true := by
  unfold SO.sought at h
  split at h
  · cases h
  · obtain ⟨j, rfl, j1, j2, st, hp, hf, s1, s2, hq⟩ := x.absent (List.mem_of_getElem? h)
    refine ⟨j, rfl, j1, j2, ?_⟩
    cases hqj : Q j with
    | true => rfl
    | false =>
      have hst := hq hqj
      subst hst
      exfalso
      have : isP s (j : Int) = true := by
        unfold isP
        rw [List.contains_iff_mem, pres_those]
        unfold those
        refine List.mem_map.2 ⟨((j : Int), 0, 0), List.mem_filter.2 ⟨?_, rfl⟩, rfl⟩
        unfold K.all K.allN
        refine List.mem_filterMap.2 ⟨j - 1, List.mem_range.2 (by have := x.n6; omega), ?_⟩
        rw [show ((j - 1 : Nat) : Int) + 1 = (j : Int) by omega]
        exact hf
      rw [this] at hp; cases hp
theorem Vu.ask {n : Nat} {Q : Nat → Bool} {i : Nat} {s : Sc} (x : Vu n Q i s) (d : Int) : Vu n Q i (ask s d).1 ∧ ∀ g ∈ (ask s d).2, FW n Q i g := by
  have h0 : (0 : Int) ≤ 0 ∧ (0 : Int) ≤ n ∧ (0 : Int) ≠ i := by have := x.i1; omega
  have x0 : Vu n Q i (ask0 s) := x.like rfl rfl rfl x.fw x.ln h0 x.ea x.el
  unfold SO.ask
  cases hs : SO.sought (ask0 s) with
  | some k =>
    obtain ⟨j, rfl, j1, j2, hq⟩ := x0.sought hs
    have hji : j ≠ i := fun e => by rw [e, x.qi] at hq; cases hq
    have y := x0.remind j1 j2 hq
    have z : Vu n Q i (ask1 (SO.remind (ask0 s) j) j) := y.like rfl rfl rfl y.fw y.ln (by show (0 : Int) ≤ (j : Int) ∧ (j : Int) ≤ n ∧ (j : Int) ≠ i; omega) y.ea y.el
    exact ⟨z.tellS _, z.tellL _ (fun q hq => by simp at hq; subst hq; show 1 ≤ (j : Int) ∧ (j : Int) ≤ n; omega)⟩
  | none =>
    rcases hx : nextL (ask0 s) d with ⟨o, s'⟩
    cases o with
    | some k =>
      obtain ⟨r, rfl, hk, hr⟩ := nextL_some hx
      have hk' : k ∈ oth0 i n := by
        rcases hk with h | h
        · exact x0.ln k h
        · exact x0.oth h
      have hk2 := mem_oth0.1 hk'
      have z : Vu n Q i (ask1 { ask0 s with line := r } k) := x0.like rfl rfl rfl x0.fw (fun j hj => by
        rcases hr j hj with h | h
        · exact x0.ln j h
        · exact x0.oth h) (by show (0 : Int) ≤ k ∧ k ≤ n ∧ k ≠ i; omega) x0.ea x0.el
      exact ⟨z.tellS _, z.tellL _ (fun q hq => by simp at hq; subst hq; exact hk2.1)⟩
    | none =>
      obtain ⟨rfl, _⟩ := nextL_none hx
      exact ⟨x0.like rfl rfl rfl x0.fw (fun k hk => by cases hk) h0 x0.ea x0.el, fun g hg => by cases hg⟩
theorem Vu.gone {n : Nat} {Q : Nat → Bool} {i : Nat} : ∀ (ks : List Int) {s : Sc}, Vu n Q i s → (∀ k ∈ ks, ∃ j : Nat, k = j ∧ 1 ≤ j ∧ j ≤ n ∧ Q j = true) → Vu n Q i (gone s ks)
  | [], s, x, _ => x
  | k :: r, s, x, h => by
    obtain ⟨j, rfl, j1, j2, hq⟩ := h k List.mem_cons_self
    exact Vu.gone r (x.turn j1 j2 hq (by omega) (by omega)) (fun k hk => h k (List.mem_cons_of_mem _ hk))
theorem Vu.over {n : Nat} {Q : Nat → Bool} {i : Nat} {s : Sc} (x : Vu n Q i s) : Vu n Q i (over s) := by
  refine x.gone _ (fun k hk => ?_)
  obtain ⟨j, rfl, j1, j2, st, hp, hf, s1, s2, hq⟩ := x.absent hk
  refine ⟨j, rfl, j1, j2, ?_⟩
  cases hqj : Q j with
  | true => rfl
  | false =>
    have := hq hqj
    subst this
    unfold overdue at hp
    simp at hp
/-- a probe that is open when doubt comes is of a silent one -/
def Dbt (Q : Nat → Bool) (s : Sc) : Prop := isOpen s = true → Q s.pn.toNat = true
theorem Vu.mid {n : Nat} {Q : Nat → Bool} {i : Nat} {s : Sc} (x : Vu n Q i s) (hd : Dbt Q s) (d : Int) : Vu n Q i (mid s d).1 ∧ ∀ g ∈ (mid s d).2, FW n Q i g := by
  unfold SO.mid
  split
  · exact x.ask d
  · split
    · unfold askH
      split
      · have y : Vu n Q i { s with ph := helpers s } := x.like rfl rfl rfl x.fw x.ln x.pn x.ea x.el
        refine ⟨y.tellS _, y.tellL _ (fun q hq => ?_)⟩
        obtain ⟨h, hh, rfl⟩ := List.mem_map.1 hq
        unfold helpers at hh
        have h1 := List.mem_of_mem_take hh
        have h2 : h ∈ SO.oth s := by
          rcases List.mem_append.1 h1 with h1 | h1
          · exact (List.mem_filter.1 h1).1
          · exact (List.mem_filter.1 h1).1
        exact (mem_oth0.1 (x.oth h2)).1
      · exact ⟨x, fun g hg => by cases hg⟩
    · split
      · refine ⟨?_, fun g hg => by cases hg⟩
        show Vu n Q i (doubt s)
        unfold doubt
        split
        · rename_i h
          rw [Bool.and_eq_true] at h
          have hq := hd h.1
          have hpn := x.pn
          have hp0 : s.pn ≠ 0 := fun e => by
            have := h.1
            unfold isOpen at this
            rw [e] at this
            simp at this
          have e : s.pn = ((s.pn.toNat : Nat) : Int) := by omega
          rw [e]
          exact x.turn (by omega) (by omega) hq (by omega) (by omega)
        · exact x
      · exact ⟨x, fun g hg => by cases hg⟩
theorem Vu.tick {n : Nat} {Q : Nat → Bool} {i : Nat} {s : Sc} (x : Vu n Q i s) (hd : Dbt Q s) (d : Int) : Vu n Q i (tick s d).1 ∧ ∀ g ∈ (tick s d).2, FW n Q i g := by
  have x0 : Vu n Q i (tick0 s) := x.like rfl rfl rfl x.fw x.ln x.pn x.ea x.el
  unfold SO.tick
  rw [x0.left, if_neg (by decide)]
  obtain ⟨a, b⟩ := x0.mid hd d
  exact ⟨a.over, b⟩
end Go.Proofs.Ytebmgajijjhinaa.SO

/- Probes and weights: on lists. -/
namespace Go.Proofs.Ytebmgajijjhinaa.SO
set_option linter.unusedVariables false
set_option linter.unusedSimpArgs false

/-- what a probe is, and the errands -/
def pr (s : Sc) : Int × Int × Bool × List Er := (s.pn, s.ps, s.pa, s.er)
theorem pr_learn (s : Sc) (m : K.Me) : pr (learn s m) = pr s := by unfold learn; split <;> rfl
theorem pr_rum (s : Sc) (m : K.Me) : pr (rum s m) = pr s := by
  have h1 : pr (rum1 s m) = pr s := by unfold rum1; split; exact pr_learn s m; rfl
  have h2 : ∀ s' : Sc, pr (rum2 s' m) = pr s' := fun s' => by unfold rum2; split <;> rfl
  have h3 : ∀ s' : Sc, pr (rum3 s' m) = pr s' := fun s' => by unfold rum3; split; exact pr_learn s' _; rfl
  unfold rum
  split
  · exact h1
  · rw [h3, h2, h1]
theorem pr_rums : ∀ (l : List K.Me) (s : Sc), pr (rums s l) = pr s
  | [], s => rfl
  | m :: r, s => (pr_rums r (rum s m)).trans (pr_rum s m)
theorem pr_heed (s : Sc) (f : Fr) : pr (heed s f) = pr s := by unfold heed; split <;> rfl
theorem pr_tellS : ∀ (l : List Fr) (s : Sc), pr (tellS s l) = pr s
  | [], s => rfl
  | y :: r, s => pr_tellS r (tell1 s y).1
theorem pr_gone : ∀ (l : List Int) (s : Sc), pr (gone s l) = pr s
  | [], s => rfl
  | k :: r, s => (pr_gone r (turn s k 2)).trans (pr_learn s _)
theorem pr_over (s : Sc) : pr (over s) = pr s := pr_gone _ s
/-- open errands -/
def opL (l : List Er) : Nat := (l.filter (fun e => !e.closed)).length
def wt (f : Fr) : Nat := if f.kind = 1 then 2 else if f.kind = 3 then 4 else 1
theorem wt_pos (f : Fr) : 1 ≤ wt f := by unfold wt; split; omega; split <;> omega
def wts (l : List Fr) : Nat := (l.map wt).sum
theorem wts_app (a b : List Fr) : wts (a ++ b) = wts a + wts b := by simp [wts]
theorem wts_len : ∀ l : List Fr, l.length ≤ wts l
  | [] => Nat.le_refl _
  | f :: r => by
    have := wts_len r
    have := wt_pos f
    show r.length + 1 ≤ wt f + wts r
    omega
theorem wts_tellL : ∀ (l : List Fr) (s : Sc), wts (tellL s l) = wts l
  | [], s => rfl
  | y :: r, s => by
    show wt (tell1 s y).2 + wts (tellL (tell1 s y).1 r) = wt y + wts r
    rw [wts_tellL r]; rfl
theorem opL_close {f : Fr} : ∀ {l : List Er} {e : Er}, l.find? (fitE f) = some e → opL (closeL f l) + 1 = opL l
  | [], e, h => by cases h
  | a :: r, e, h => by
    unfold closeL
    by_cases ha : fitE f a = true
    · rw [if_pos ha]
      have hc : a.closed = false := by
        unfold fitE at ha
        simp only [Bool.and_eq_true, Bool.not_eq_true'] at ha
        exact ha.2
      simp [opL, shut, hc]
    · rw [if_neg ha]
      rw [List.find?_cons_of_neg ha] at h
      have ih := opL_close h
      unfold opL at ih ⊢
      rw [List.filter_cons, List.filter_cons]
      split <;> (try simp only [List.length_cons]) <;> omega
theorem opL_add (l : List Er) (e : Er) : opL (addE l e) ≤ opL l + 1 := by
  have h : opL (l ++ [e]) ≤ opL l + 1 := by
    unfold opL
    rw [List.filter_append, List.length_append]
    have := List.length_filter_le (fun e : Er => !e.closed) [e]
    simp only [List.length_singleton] at this
    omega
  unfold addE
  split
  · refine Nat.le_trans ?_ h
    unfold opL
    exact (List.Sublist.filter _ (List.drop_sublist 1 (l ++ [e]))).length_le
  · exact h
theorem opL_le (l : List Er) : opL l ≤ l.length := List.length_filter_le _ _
theorem pHear_er' (s : Sc) (f : Fr) : (pHear s f).er = s.er := by unfold pHear; split <;> rfl
/-- a frame that is heard: what it weighs goes down -/
theorem act_wt (s : Sc) (f : Fr) : wts (act s f).2 + opL (act s f).1.er + 1 ≤ wt f + opL s.er := by
  have e0 : ∀ (l : List Fr) (s' : Sc), (tellS s' l).er = s'.er := fun l s' => congrArg (fun q : Int × Int × Bool × List Er => q.2.2.2) (pr_tellS l s')
  unfold act
  by_cases h1 : f.kind = 1
  · rw [if_pos h1]
    show wts (tellL s [ack f.frm f.seq s.me]) + opL (tellS s [ack f.frm f.seq s.me]).er + 1 ≤ _
    rw [wts_tellL, e0]
    have : wt f = 2 := by unfold wt; rw [if_pos h1]
    have h2 : wts [ack f.frm f.seq s.me] = 1 := rfl
    omega
  · rw [if_neg h1]
    by_cases h3 : f.kind = 3
    · rw [if_pos h3]
      have hw : wt f = 4 := by unfold wt; rw [if_neg h1, if_pos h3]
      unfold errand
      split
      · show wts (tellL { s with seq := s.seq + 1, er := addE s.er ⟨s.seq + 1, f.node, f.frm, f.seq, false⟩ } [ping f.node (s.seq + 1)]) + opL (tellS { s with seq := s.seq + 1, er := addE s.er ⟨s.seq + 1, f.node, f.frm, f.seq, false⟩ } [ping f.node (s.seq + 1)]).er + 1 ≤ _
        rw [wts_tellL, e0]
        have h2 : wts [ping f.node (s.seq + 1)] = 2 := rfl
        have h4 := opL_add s.er ⟨s.seq + 1, f.node, f.frm, f.seq, false⟩
        show _ + opL (addE s.er ⟨s.seq + 1, f.node, f.frm, f.seq, false⟩) + 1 ≤ _
        omega
      · show 0 + opL s.er + 1 ≤ _
        omega
    · rw [if_neg h3]
      have hw : wt f = 1 := by unfold wt; rw [if_neg h1, if_neg h3]
      by_cases h2 : f.kind = 2
      · rw [if_pos h2]
        unfold ackE
        split
        · rename_i e he
          show wts (tellL { pHear s f with er := closeL f (pHear s f).er } [ack e.asker e.asked e.node]) + opL (tellS { pHear s f with er := closeL f (pHear s f).er } [ack e.asker e.asked e.node]).er + 1 ≤ _
          rw [wts_tellL, e0]
          have h5 : wts [ack e.asker e.asked e.node] = 1 := rfl
          have h6 := opL_close he
          rw [pHear_er'] at h6
          show _ + opL (closeL f (pHear s f).er) + 1 ≤ _
          rw [pHear_er']
          omega
        · show 0 + opL (pHear s f).er + 1 ≤ _
          rw [pHear_er']
          omega
      · rw [if_neg h2]
        show 0 + opL s.er + 1 ≤ _
        omega
theorem hear_wt (s : Sc) (f : Fr) : wts (hear s f).2 + opL (hear s f).1.er + 1 ≤ wt f + opL s.er := by
  have hw := wt_pos f
  unfold hear
  split
  · have he : (rums (heed s f) f.rum).er = s.er := congrArg (fun q : Int × Int × Bool × List Er => q.2.2.2) ((pr_rums f.rum (heed s f)).trans (pr_heed s f))
    split
    · show 0 + opL (rums (heed s f) f.rum).er + 1 ≤ _
      rw [he]; omega
    · have := act_wt (rums (heed s f) f.rum) f
      rw [he] at this
      exact this
  · show 0 + opL s.er + 1 ≤ _
    omega
/-- a probe that was answered stays so; an answer that fits answers it -/
theorem act_pr (s : Sc) (f : Fr) : (act s f).1.pn = s.pn ∧ (act s f).1.ps = s.ps ∧ (s.pa = true → (act s f).1.pa = true) ∧ (f.kind = 2 → f.seq = s.ps → f.node = s.pn → f.frm = s.pn → (act s f).1.pa = true) := by
  have e0 : ∀ (l : List Fr) (s' : Sc), (tellS s' l).pn = s'.pn ∧ (tellS s' l).ps = s'.ps ∧ (tellS s' l).pa = s'.pa := fun l s' => by
    have h := pr_tellS l s'
    exact ⟨congrArg (fun q : Int × Int × Bool × List Er => q.1) h, congrArg (fun q : Int × Int × Bool × List Er => q.2.1) h, congrArg (fun q : Int × Int × Bool × List Er => q.2.2.1) h⟩
  unfold act
  by_cases h1 : f.kind = 1
  · rw [if_pos h1]
    obtain ⟨a, b, c⟩ := e0 [ack f.frm f.seq s.me] s
    exact ⟨a, b, fun h => by rw [← h]; exact c, fun h => by omega⟩
  · rw [if_neg h1]
    by_cases h3 : f.kind = 3
    · rw [if_pos h3]
      unfold errand
      split
      · obtain ⟨a, b, c⟩ := e0 [ping f.node (s.seq + 1)] { s with seq := s.seq + 1, er := addE s.er ⟨s.seq + 1, f.node, f.frm, f.seq, false⟩ }
        exact ⟨a, b, fun h => c.trans h, fun h => by omega⟩
      · exact ⟨rfl, rfl, fun h => h, fun h => by omega⟩
    · rw [if_neg h3]
      by_cases h2 : f.kind = 2
      · rw [if_pos h2]
        have hp : (pHear s f).pn = s.pn ∧ (pHear s f).ps = s.ps ∧ (s.pa = true → (pHear s f).pa = true) ∧ (f.seq = s.ps → f.node = s.pn → f.frm = s.pn → (pHear s f).pa = true) := by
          unfold pHear
          split
          · exact ⟨rfl, rfl, fun _ => rfl, fun _ _ _ => rfl⟩
          · rename_i h
            refine ⟨rfl, rfl, fun h => h, fun a b c => ?_⟩
            rw [a, b, c] at h
            simp at h
        unfold ackE
        split
        · rename_i e he
          obtain ⟨a, b, c⟩ := e0 [ack e.asker e.asked e.node] { pHear s f with er := closeL f (pHear s f).er }
          exact ⟨a.trans hp.1, b.trans hp.2.1, fun h => c.trans (hp.2.2.1 h), fun _ a1 b1 c1 => c.trans (hp.2.2.2 a1 b1 c1)⟩
        · exact ⟨hp.1, hp.2.1, hp.2.2.1, fun _ => hp.2.2.2⟩
      · rw [if_neg h2]
        exact ⟨rfl, rfl, fun h => h, fun h => absurd h h2⟩
end Go.Proofs.Ytebmgajijjhinaa.SO

/- A round where some are silent: on lists. -/
namespace Go.Proofs.Ytebmgajijjhinaa.SO
set_option linter.unusedVariables false
set_option linter.unusedSimpArgs false

/-- an answer to a probe is under way -/
def Wit (i : Nat) (s : Sc) (net : List Fr) : Prop := ∃ f ∈ net, (f.kind = 1 ∧ f.frm = i ∧ f.dst = s.pn ∧ f.seq = s.ps) ∨ (f.kind = 2 ∧ f.frm = s.pn ∧ f.dst = i ∧ f.seq = s.ps ∧ f.node = s.pn)
theorem Wit.mono {i : Nat} {s s' : Sc} {a b : List Fr} (h : Wit i s a) (h1 : s'.pn = s.pn) (h2 : s'.ps = s.ps) (h3 : ∀ f ∈ a, f ∈ b) : Wit i s' b := by
  obtain ⟨f, hf, h⟩ := h
  refine ⟨f, h3 f hf, ?_⟩
  rw [h1, h2]; exact h
/-- a camp while frames come -/
structure RV (n : Nat) (Q : Nat → Bool) (ss : Nat → Sc) (net : List Fr) : Prop where
  v : ∀ i, 1 ≤ i → i ≤ n → Q i = false → Vu n Q i (ss i)
  fr : ∀ f ∈ net, ∃ j, 1 ≤ j ∧ j ≤ n ∧ Q j = false ∧ FW n Q j f
  pb : ∀ i, 1 ≤ i → i ≤ n → Q i = false → Dbt Q (ss i) ∨ (Q (ss i).pn.toNat = false ∧ Wit i (ss i) net)
theorem Vu.hear_pr {n : Nat} {Q : Nat → Bool} {i j : Nat} {s : Sc} (x : Vu n Q i s) {f : Fr} (hf : FW n Q j f) (j1 : 1 ≤ j) (j2 : j ≤ n) (hj : Q j = false) (hne : j ≠ i) :
    (SO.hear s f).1.pn = s.pn ∧ (SO.hear s f).1.ps = s.ps ∧ (s.pa = true → (SO.hear s f).1.pa = true) ∧ (f.kind = 2 → f.seq = s.ps → f.node = s.pn → f.frm = s.pn → (SO.hear s f).1.pa = true) ∧ (f.kind = 1 → ∃ g ∈ (SO.hear s f).2, g.kind = 2 ∧ g.frm = i ∧ g.dst = f.frm ∧ g.seq = f.seq ∧ g.node = i) := by
  have ho : SO.other s f.frm = true := x.other.2 (by rw [hf.frm]; omega)
  have y := Vu.rums f.rum x hf.rw
  have hp : pr (SO.rums s f.rum) = pr s := pr_rums f.rum s
  have e : SO.hear s f = SO.act (SO.rums s f.rum) f := by
    unfold SO.hear
    rw [if_pos ho, x.heed hf j1 j2 hj, y.left, if_neg (by decide)]
  rw [e]
  have p1 : (SO.rums s f.rum).pn = s.pn := congrArg (fun q : Int × Int × Bool × List Er => q.1) hp
  have p2 : (SO.rums s f.rum).ps = s.ps := congrArg (fun q : Int × Int × Bool × List Er => q.2.1) hp
  have p3 : (SO.rums s f.rum).pa = s.pa := congrArg (fun q : Int × Int × Bool × List Er => q.2.2.1) hp
  obtain ⟨a, b, c, d⟩ := act_pr (SO.rums s f.rum) f
  rw [p1] at a d
  rw [p2] at b d
  rw [p3] at c
  refine ⟨a, b, c, d, fun hk => ?_⟩
  unfold SO.act
  rw [if_pos hk]
  refine ⟨_, List.mem_cons_self, rfl, y.hme, rfl, rfl, y.hme⟩
theorem hear_self {n : Nat} {Q : Nat → Bool} {i : Nat} {s : Sc} (x : Vu n Q i s) {f : Fr} (hf : f.frm = i) : hear s f = (s, []) := by
  have ho : ¬ SO.other s f.frm = true := fun h => (x.other.1 h).2.2 hf
  unfold SO.hear
  rw [if_neg ho]
/-- one frame comes -/
theorem RV.step {n : Nat} {Q : Nat → Bool} {ss : Nat → Sc} {f : Fr} {r : List Fr} (x : RV n Q ss (f :: r)) : RV n Q (hr1 Q (ss, f :: r)).1 (hr1 Q (ss, f :: r)).2 := by
  obtain ⟨j, j1, j2, hj, hf⟩ := x.fr f List.mem_cons_self
  have hd1 := hf.d1
  have hd2 := hf.d2
  have hfj : f.frm.toNat = j := by rw [hf.frm]; omega
  unfold hr1
  simp only
  rw [hfj, hj]
  by_cases hQ : Q f.dst.toNat = true
  · rw [if_neg (by rw [hQ]; decide)]
    refine ⟨x.v, fun g hg => x.fr g (List.mem_cons_of_mem _ hg), fun i i1 i2 hi => ?_⟩
    rcases x.pb i i1 i2 hi with h | ⟨h1, g, hg, hw⟩
    · exact Or.inl h
    · refine Or.inr ⟨h1, g, ?_, hw⟩
      rcases List.mem_cons.1 hg with rfl | hg
      · exfalso
        rcases hw with ⟨_, _, w, _⟩ | ⟨_, _, w, _⟩
        · rw [w] at hQ; rw [hQ] at h1; cases h1
        · have : g.dst.toNat = i := by rw [w]; omega
          rw [this, hi] at hQ; cases hQ
      · exact hg
  · have hQ' : Q f.dst.toNat = false := by simpa using hQ
    rw [if_pos (by rw [hQ']; rfl)]
    obtain ⟨q, hq⟩ : ∃ q, f.dst.toNat = q := ⟨_, rfl⟩
    rw [hq] at hQ' ⊢
    have q1 : 1 ≤ q := by omega
    have q2 : q ≤ n := by omega
    have hdq : f.dst = (q : Int) := by omega
    have xq := x.v q q1 q2 hQ'
    obtain ⟨yq, hgs⟩ := xq.hear hf j1 j2 hj
    refine ⟨fun i i1 i2 hi => ?_, fun g hg => ?_, fun i i1 i2 hi => ?_⟩
    · show Vu n Q i (if i = q then _ else _)
      by_cases e : i = q
      · subst e; rw [if_pos rfl]; exact yq
      · rw [if_neg e]; exact x.v i i1 i2 hi
    · rcases List.mem_append.1 hg with hg | hg
      · exact x.fr g (List.mem_cons_of_mem _ hg)
      · exact ⟨q, q1, q2, hQ', hgs g hg⟩
    · show Dbt Q (up ss q (hear (ss q) f).1 i) ∨ (Q (up ss q (hear (ss q) f).1 i).pn.toNat = false ∧ Wit i (up ss q (hear (ss q) f).1 i) (r ++ (hear (ss q) f).2))
      by_cases e : i = q
      · subst e
        have eu : up ss i (hear (ss i) f).1 i = (hear (ss i) f).1 := if_pos rfl
        rw [eu]
        by_cases hji : j = i
        · have hs := hear_self xq (f := f) (by rw [hf.frm, hji])
          rw [hs]
          rcases x.pb i i1 i2 hi with h | ⟨h1, g, hg, hw⟩
          · exact Or.inl h
          · refine Or.inr ⟨h1, g, ?_, hw⟩
            rcases List.mem_cons.1 hg with rfl | hg
            · exfalso
              rcases hw with ⟨_, _, w, _⟩ | ⟨_, w, _⟩
              · exact xq.pn.2.2 (by rw [← w]; exact hdq)
              · exact xq.pn.2.2 (by rw [← w, hf.frm, hji])
            · exact List.mem_append_left _ hg
        · obtain ⟨p1, p2, p3, p4, _⟩ := xq.hear_pr hf j1 j2 hj hji
          rcases x.pb i i1 i2 hi with h | ⟨h1, g, hg, hw⟩
          · refine Or.inl (fun ho => ?_)
            rw [p1]
            refine h ?_
            unfold isOpen at ho ⊢
            rw [p1] at ho
            cases hpa : (ss i).pa with
            | true => rw [p3 hpa] at ho; simp at ho
            | false =>
              simp only [Bool.and_eq_true] at ho
              simp only [Bool.and_eq_true]
              exact ⟨ho.1, rfl⟩
          · rcases List.mem_cons.1 hg with rfl | hg
            · rcases hw with ⟨_, _, w, _⟩ | ⟨w1, w2, w3, w4, w5⟩
              · exact absurd (w.symm.trans hdq) xq.pn.2.2
              · refine Or.inl (fun ho => ?_)
                unfold isOpen at ho
                rw [p4 w1 w4 w5 w2] at ho
                simp at ho
            · refine Or.inr ⟨by rw [p1]; exact h1, ?_⟩
              exact Wit.mono ⟨g, hg, hw⟩ p1 p2 (fun f hf => List.mem_append_left _ hf)
      · have en : up ss q (hear (ss q) f).1 i = ss i := if_neg e
        rw [en]
        rcases x.pb i i1 i2 hi with h | ⟨h1, g, hg, hw⟩
        · exact Or.inl h
        · refine Or.inr ⟨h1, ?_⟩
          rcases List.mem_cons.1 hg with rfl | hg
          · rcases hw with ⟨w1, w2, w3, w4⟩ | ⟨_, _, w3, _⟩
            · have hji : j = i := by have := hf.frm; omega
              subst hji
              obtain ⟨_, _, _, _, p5⟩ := xq.hear_pr hf j1 j2 hj (fun e' => e (e'))
              obtain ⟨k, hk, k1, k2, k3, k4, k5⟩ := p5 w1
              refine ⟨k, List.mem_append_right _ hk, Or.inr ⟨k1, ?_, ?_, ?_, ?_⟩⟩
              · rw [k2, ← w3, hdq]
              · rw [k3]; exact w2
              · rw [k4]; exact w4
              · rw [k5, ← w3, hdq]
            · exfalso
              apply e
              omega
          · exact ⟨g, List.mem_append_left _ hg, hw⟩
end Go.Proofs.Ytebmgajijjhinaa.SO

/- A whole round where some are silent: on lists. -/
namespace Go.Proofs.Ytebmgajijjhinaa.SO
set_option linter.unusedVariables false
set_option linter.unusedSimpArgs false

/-- the open errands of those who are there -/
def sE (Q : Nat → Bool) (ss : Nat → Sc) : Nat → Nat
  | 0 => 0
  | k + 1 => sE Q ss k + (if Q (k + 1) = true then 0 else opL (ss (k + 1)).er)
theorem sE_off {Q : Nat → Bool} {ss : Nat → Sc} {q : Nat} {s' : Sc} : ∀ k, k < q → sE Q (up ss q s') k = sE Q ss k
  | 0, _ => rfl
  | k + 1, h => by
    show sE Q (up ss q s') k + _ = sE Q ss k + _
    rw [sE_off k (by omega)]
    have : up ss q s' (k + 1) = ss (k + 1) := if_neg (by omega)
    rw [this]
theorem sE_up {Q : Nat → Bool} {ss : Nat → Sc} {q : Nat} {s' : Sc} (hq : Q q = false) (h1 : 1 ≤ q) : ∀ k, q ≤ k → sE Q (up ss q s') k + opL (ss q).er = sE Q ss k + opL s'.er
  | 0, h => by omega
  | k + 1, h => by
    show sE Q (up ss q s') k + (if Q (k + 1) = true then 0 else opL (up ss q s' (k + 1)).er) + _ = sE Q ss k + (if Q (k + 1) = true then 0 else opL (ss (k + 1)).er) + _
    by_cases e : q = k + 1
    · subst e
      have hu : up ss (k + 1) s' (k + 1) = s' := if_pos rfl
      rw [hu, sE_off k (by omega), hq]
      simp only [Bool.false_eq_true, if_false]
      omega
    · have hu : up ss q s' (k + 1) = ss (k + 1) := if_neg (by omega)
      rw [hu]
      have := sE_up (ss := ss) (s' := s') hq h1 k (by omega)
      omega
theorem sE_le {Q : Nat → Bool} {ss : Nat → Sc} : ∀ k, (∀ i, 1 ≤ i → i ≤ k → Q i = false → (ss i).er.length ≤ 16) → sE Q ss k ≤ 16 * k
  | 0, _ => Nat.le_refl _
  | k + 1, h => by
    have ih := sE_le k (fun i i1 i2 hi => h i i1 (by omega) hi)
    show sE Q ss k + (if Q (k + 1) = true then 0 else opL (ss (k + 1)).er) ≤ _
    split
    · omega
    · rename_i hq
      have := h (k + 1) (by omega) (by omega) (by simpa using hq)
      have := opL_le (ss (k + 1)).er
      omega
def Ph (n : Nat) (Q : Nat → Bool) (S : (Nat → Sc) × List Fr) : Nat := wts S.2 + sE Q S.1 n
theorem RV.less {n : Nat} {Q : Nat → Bool} {ss : Nat → Sc} {f : Fr} {r : List Fr} (x : RV n Q ss (f :: r)) : Ph n Q (hr1 Q (ss, f :: r)) + 1 ≤ Ph n Q (ss, f :: r) := by
  obtain ⟨j, j1, j2, hj, hf⟩ := x.fr f List.mem_cons_self
  have hd1 := hf.d1
  have hd2 := hf.d2
  have hfj : f.frm.toNat = j := by rw [hf.frm]; omega
  have hw := wt_pos f
  have hfr : wts (f :: r) = wt f + wts r := rfl
  unfold hr1 Ph
  simp only
  rw [hfj, hj]
  by_cases hQ : Q f.dst.toNat = true
  · rw [if_neg (by rw [hQ]; decide)]
    show wts r + sE Q ss n + 1 ≤ _
    omega
  · have hQ' : Q f.dst.toNat = false := by simpa using hQ
    rw [if_pos (by rw [hQ']; rfl)]
    show wts (r ++ (hear (ss f.dst.toNat) f).2) + sE Q (up ss f.dst.toNat (hear (ss f.dst.toNat) f).1) n + 1 ≤ _
    rw [wts_app]
    have h1 := hear_wt (ss f.dst.toNat) f
    have h2 := sE_up (ss := ss) (s' := (hear (ss f.dst.toNat) f).1) hQ' (by omega) n (by omega)
    omega
theorem rH_shift (sil : Nat → Bool) (S : (Nat → Sc) × List Fr) : ∀ k, rH sil S (k + 1) = rH sil (hr1 sil S) k
  | 0 => rfl
  | k + 1 => by
    show hr1 sil (rH sil S (k + 1)) = hr1 sil (rH sil (hr1 sil S) k)
    rw [rH_shift sil S k]
theorem RV.run {n : Nat} {Q : Nat → Bool} : ∀ (m : Nat) (S : (Nat → Sc) × List Fr), RV n Q S.1 S.2 → Ph n Q S ≤ m → ∃ K, K ≤ m ∧ (rH Q S K).2 = [] ∧ (∀ j, j < K → (rH Q S j).2 ≠ []) ∧ RV n Q (rH Q S K).1 []
  | m, (ss, []), x, h => ⟨0, Nat.zero_le _, rfl, fun j hj => by omega, x⟩
  | 0, (ss, f :: r), x, h => by
    have hl : Ph n Q (hr1 Q (ss, f :: r)) + 1 ≤ Ph n Q (ss, f :: r) := x.less
    have h' : Ph n Q (ss, f :: r) ≤ 0 := h
    omega
  | m + 1, (ss, f :: r), x, h => by
    have hl : Ph n Q (hr1 Q (ss, f :: r)) + 1 ≤ Ph n Q (ss, f :: r) := x.less
    have h' : Ph n Q (ss, f :: r) ≤ m + 1 := h
    obtain ⟨K, k1, k2, k3, k4⟩ := RV.run m (hr1 Q (ss, f :: r)) x.step (by omega)
    refine ⟨K + 1, by omega, by rw [rH_shift]; exact k2, fun j hj => ?_, by rw [rH_shift]; exact k4⟩
    cases j with
    | zero => intro e; cases e
    | succ j => rw [rH_shift]; exact k3 j (by omega)
theorem RV.all {n : Nat} {Q : Nat → Bool} {S : (Nat → Sc) × List Fr} (x : RV n Q S.1 S.2) : ∀ k, RV n Q (rH Q S k).1 (rH Q S k).2 ∧ Ph n Q (rH Q S k) ≤ Ph n Q S
  | 0 => ⟨x, Nat.le_refl _⟩
  | k + 1 => by
    obtain ⟨h1, h2⟩ := RV.all x k
    show RV n Q (hr1 Q (rH Q S k)).1 (hr1 Q (rH Q S k)).2 ∧ Ph n Q (hr1 Q (rH Q S k)) ≤ _
    generalize rH Q S k = T at *
    obtain ⟨ss, net⟩ := T
    cases net with
    | nil => exact ⟨h1, h2⟩
    | cons f r =>
      have hl : Ph n Q (hr1 Q (ss, f :: r)) + 1 ≤ Ph n Q (ss, f :: r) := h1.less
      exact ⟨h1.step, by omega⟩
theorem act_len (s : Sc) (f : Fr) : (act s f).2.length ≤ 1 := by
  unfold act
  split
  · show (tellL s _).length ≤ 1; rw [tellL_len]; simp
  · split
    · unfold errand
      split
      · show (tellL _ _).length ≤ 1; rw [tellL_len]; simp
      · simp
    · split
      · unfold ackE
        split
        · show (tellL _ _).length ≤ 1; rw [tellL_len]; simp
        · simp
      · simp
theorem hear_len (s : Sc) (f : Fr) : (hear s f).2.length ≤ 1 := by
  unfold hear
  split
  · split
    · simp
    · exact act_len _ _
  · simp
/-- behind a tick -/
theorem Vu.tick_pb {n : Nat} {Q : Nat → Bool} {i : Nat} {s : Sc} (x : Vu n Q i s) (hd : Dbt Q s) (d : Int) : (Dbt Q (SO.tick s d).1 ∨ (Q (SO.tick s d).1.pn.toNat = false ∧ Wit i (SO.tick s d).1 (SO.tick s d).2)) ∧ (SO.tick s d).1.er = s.er ∧ wts (SO.tick s d).2 ≤ 8 := by
  have x0 : Vu n Q i (tick0 s) := x.like rfl rfl rfl x.fw x.ln x.pn x.ea x.el
  have key : (Dbt Q (SO.mid (tick0 s) d).1 ∨ (Q (SO.mid (tick0 s) d).1.pn.toNat = false ∧ Wit i (SO.mid (tick0 s) d).1 (SO.mid (tick0 s) d).2)) ∧ (SO.mid (tick0 s) d).1.er = s.er ∧ wts (SO.mid (tick0 s) d).2 ≤ 8 := by
    have same : ∀ s' : Sc, pr s' = pr s → Dbt Q s' := fun s' e ho => by
      have e1 : s'.pn = s.pn := congrArg (fun q : Int × Int × Bool × List Er => q.1) e
      have e3 : s'.pa = s.pa := congrArg (fun q : Int × Int × Bool × List Er => q.2.2.1) e
      unfold isOpen at ho
      rw [e1, e3] at ho
      rw [e1]
      exact hd ho
    have ers : ∀ s' : Sc, pr s' = pr s → s'.er = s.er := fun s' e => congrArg (fun q : Int × Int × Bool × List Er => q.2.2.2) e
    have asks : ∀ (s1 : Sc) (k : Int), s1.me = i → s1.er = s.er → s1.pn = k → s1.ps = s.seq + 1 → (Dbt Q (SO.tellS s1 [ping k (s.seq + 1)]) ∨ (Q (SO.tellS s1 [ping k (s.seq + 1)]).pn.toNat = false ∧ Wit i (SO.tellS s1 [ping k (s.seq + 1)]) (SO.tellL s1 [ping k (s.seq + 1)]))) ∧ (SO.tellS s1 [ping k (s.seq + 1)]).er = s.er ∧ wts (SO.tellL s1 [ping k (s.seq + 1)]) ≤ 8 := fun s1 k hm he hp hs => by
      have e := pr_tellS [ping k (s.seq + 1)] s1
      have e1 : (SO.tellS s1 [ping k (s.seq + 1)]).pn = k := (congrArg (fun q : Int × Int × Bool × List Er => q.1) e).trans hp
      have e2 : (SO.tellS s1 [ping k (s.seq + 1)]).ps = s.seq + 1 := (congrArg (fun q : Int × Int × Bool × List Er => q.2.1) e).trans hs
      have e4 : (SO.tellS s1 [ping k (s.seq + 1)]).er = s.er := (congrArg (fun q : Int × Int × Bool × List Er => q.2.2.2) e).trans he
      refine ⟨?_, e4, by rw [wts_tellL]; show 2 + 0 ≤ 8; omega⟩
      cases hq : Q k.toNat with
      | true => exact Or.inl (fun _ => by rw [e1]; exact hq)
      | false =>
        refine Or.inr ⟨by rw [e1]; exact hq, _, List.mem_cons_self, Or.inl ⟨rfl, hm, ?_, ?_⟩⟩
        · rw [e1]; rfl
        · rw [e2]; rfl
    unfold SO.mid
    split
    · unfold SO.ask
      cases hs : SO.sought (ask0 (tick0 s)) with
      | some k => exact asks (ask1 (SO.remind (ask0 (tick0 s)) k) k) k x.hme rfl rfl rfl
      | none =>
        rcases hx : nextL (ask0 (tick0 s)) d with ⟨o, s'⟩
        cases o with
        | some k =>
          obtain ⟨r, rfl, _⟩ := nextL_some hx
          exact asks (ask1 { ask0 (tick0 s) with line := r } k) k x.hme rfl rfl rfl
        | none =>
          obtain ⟨rfl, _⟩ := nextL_none hx
          refine ⟨Or.inl (fun ho => ?_), rfl, Nat.zero_le _⟩
          unfold isOpen at ho
          simp [ask0] at ho
    · split
      · unfold askH
        split
        · have e := pr_tellS ((helpers (tick0 s)).map (fun h => askF h (tick0 s).ps (tick0 s).pn)) { tick0 s with ph := helpers (tick0 s) }
          have e' : pr (SO.tellS { tick0 s with ph := helpers (tick0 s) } ((helpers (tick0 s)).map (fun h => askF h (tick0 s).ps (tick0 s).pn))) = pr s := e
          refine ⟨Or.inl (same _ e'), ers _ e', ?_⟩
          show wts (SO.tellL _ _) ≤ 8
          rw [wts_tellL]
          have hl : (helpers (tick0 s)).length ≤ 2 := by unfold helpers; exact List.length_take_le _ _
          have : ∀ l : List Int, wts (l.map (fun h => askF h (tick0 s).ps (tick0 s).pn)) = 4 * l.length := fun l => by
            induction l with
            | nil => rfl
            | cons a r ih =>
              show 4 + wts (r.map _) = _
              rw [ih, List.length_cons]; omega
          rw [this]; omega
        · exact ⟨Or.inl (same _ rfl), rfl, Nat.zero_le _⟩
      · split
        · have e : pr (doubt (tick0 s)) = pr s := by
            unfold doubt
            split
            · exact pr_learn _ _
            · rfl
          exact ⟨Or.inl (same _ e), ers _ e, Nat.zero_le _⟩
        · exact ⟨Or.inl (same _ rfl), rfl, Nat.zero_le _⟩
  unfold SO.tick
  rw [x0.left, if_neg (by decide)]
  have e := pr_over (SO.mid (tick0 s) d).1
  have e1 : (SO.over (SO.mid (tick0 s) d).1).pn = (SO.mid (tick0 s) d).1.pn := congrArg (fun q : Int × Int × Bool × List Er => q.1) e
  have e2 : (SO.over (SO.mid (tick0 s) d).1).ps = (SO.mid (tick0 s) d).1.ps := congrArg (fun q : Int × Int × Bool × List Er => q.2.1) e
  have e3 : (SO.over (SO.mid (tick0 s) d).1).pa = (SO.mid (tick0 s) d).1.pa := congrArg (fun q : Int × Int × Bool × List Er => q.2.2.1) e
  have e4 : (SO.over (SO.mid (tick0 s) d).1).er = (SO.mid (tick0 s) d).1.er := congrArg (fun q : Int × Int × Bool × List Er => q.2.2.2) e
  refine ⟨?_, e4.trans key.2.1, key.2.2⟩
  rcases key.1 with h | ⟨h1, h2⟩
  · refine Or.inl (fun ho => ?_)
    show Q (SO.over (SO.mid (tick0 s) d).1).pn.toNat = true
    rw [e1]
    refine h ?_
    unfold isOpen at ho ⊢
    simp only at ho
    rw [e1, e3] at ho
    exact ho
  · refine Or.inr ⟨?_, h2.mono e1 e2 (fun f hf => hf)⟩
    show Q (SO.over (SO.mid (tick0 s) d).1).pn.toNat = false
    rw [e1]; exact h1
end Go.Proofs.Ytebmgajijjhinaa.SO

/- Rounds go well, whoever is silent: on lists. -/
namespace Go.Proofs.Ytebmgajijjhinaa.SO
set_option linter.unusedVariables false
set_option linter.unusedSimpArgs false

/-- a camp between rounds -/
def CI (n : Nat) (Q : Nat → Bool) (ss : Nat → Sc) : Prop := ∀ i, 1 ≤ i → i ≤ n → Q i = false → Vu n Q i (ss i) ∧ Dbt Q (ss i)
theorem sE_same {Q : Nat → Bool} {ss : Nat → Sc} {q : Nat} {s' : Sc} (h : s'.er = (ss q).er) : ∀ k, sE Q (up ss q s') k = sE Q ss k
  | 0 => rfl
  | k + 1 => by
    show sE Q (up ss q s') k + _ = sE Q ss k + _
    rw [sE_same h k]
    by_cases e : k + 1 = q
    · have hu : up ss q s' (k + 1) = s' := if_pos e
      rw [hu, h, e]
    · have hu : up ss q s' (k + 1) = ss (k + 1) := if_neg e
      rw [hu]
theorem CI.ticks {n : Nat} {Q : Nat → Bool} {ss : Nat → Sc} (x : CI n Q ss) (dr : Nat → Int) : ∀ k, k ≤ n → RV n Q (rT Q dr (ss, []) k).1 (rT Q dr (ss, []) k).2 ∧ (∀ i, k < i → (rT Q dr (ss, []) k).1 i = ss i) ∧ wts (rT Q dr (ss, []) k).2 ≤ 8 * k ∧ sE Q (rT Q dr (ss, []) k).1 n = sE Q ss n
  | 0, _ => ⟨⟨fun i i1 i2 hi => (x i i1 i2 hi).1, fun f hf => (by cases hf), fun i i1 i2 hi => Or.inl (x i i1 i2 hi).2⟩, fun _ _ => rfl, Nat.le_refl _, rfl⟩
  | k + 1, hk => by
    obtain ⟨h1, h2, h3, h4⟩ := CI.ticks x dr k (by omega)
    show RV n Q (if Q (k + 1) = true then rT Q dr (ss, []) k else tk1 dr (rT Q dr (ss, []) k) (k + 1)).1 _ ∧ _
    by_cases hq : Q (k + 1) = true
    · have e : rT Q dr (ss, []) (k + 1) = rT Q dr (ss, []) k := if_pos hq
      rw [if_pos hq, e]
      exact ⟨h1, fun i hi => h2 i (by omega), by omega, h4⟩
    · have hq' : Q (k + 1) = false := by simpa using hq
      have e : rT Q dr (ss, []) (k + 1) = tk1 dr (rT Q dr (ss, []) k) (k + 1) := if_neg hq
      rw [if_neg hq, e]
      have hs := h2 (k + 1) (by omega)
      obtain ⟨v, db⟩ := x (k + 1) (by omega) hk hq'
      generalize rT Q dr (ss, []) k = T at *
      obtain ⟨tt, net⟩ := T
      simp only at hs h1 h2 h3 h4
      show RV n Q (up tt (k + 1) (tick (tt (k + 1)) (dr (k + 1))).1) (net ++ (tick (tt (k + 1)) (dr (k + 1))).2) ∧ (∀ i, k + 1 < i → up tt (k + 1) (tick (tt (k + 1)) (dr (k + 1))).1 i = ss i) ∧ wts (net ++ (tick (tt (k + 1)) (dr (k + 1))).2) ≤ 8 * (k + 1) ∧ sE Q (up tt (k + 1) (tick (tt (k + 1)) (dr (k + 1))).1) n = sE Q ss n
      rw [hs]
      obtain ⟨vt, fw⟩ := v.tick db (dr (k + 1))
      obtain ⟨pb, er, w8⟩ := v.tick_pb db (dr (k + 1))
      refine ⟨⟨fun i i1 i2 hi => ?_, fun f hf => ?_, fun i i1 i2 hi => ?_⟩, fun i hi => ?_, by rw [wts_app]; omega, ?_⟩
      · by_cases ei : i = k + 1
        · subst ei
          have hu : up tt (k + 1) (tick (ss (k + 1)) (dr (k + 1))).1 (k + 1) = (tick (ss (k + 1)) (dr (k + 1))).1 := if_pos rfl
          rw [hu]; exact vt
        · have hu : up tt (k + 1) (tick (ss (k + 1)) (dr (k + 1))).1 i = tt i := if_neg ei
          rw [hu]; exact h1.v i i1 i2 hi
      · rcases List.mem_append.1 hf with hf | hf
        · exact h1.fr f hf
        · exact ⟨k + 1, by omega, hk, hq', fw f hf⟩
      · by_cases ei : i = k + 1
        · subst ei
          have hu : up tt (k + 1) (tick (ss (k + 1)) (dr (k + 1))).1 (k + 1) = (tick (ss (k + 1)) (dr (k + 1))).1 := if_pos rfl
          rw [hu]
          rcases pb with h | ⟨p1, p2⟩
          · exact Or.inl h
          · exact Or.inr ⟨p1, p2.mono rfl rfl (fun f hf => List.mem_append_right _ hf)⟩
        · have hu : up tt (k + 1) (tick (ss (k + 1)) (dr (k + 1))).1 i = tt i := if_neg ei
          rw [hu]
          rcases h1.pb i i1 i2 hi with h | ⟨p1, p2⟩
          · exact Or.inl h
          · exact Or.inr ⟨p1, p2.mono rfl rfl (fun f hf => List.mem_append_left _ hf)⟩
      · have hu : up tt (k + 1) (tick (ss (k + 1)) (dr (k + 1))).1 i = tt i := if_neg (by omega)
        rw [hu]; exact h2 i (by omega)
      · rw [sE_same (by rw [hs]; exact er)]; exact h4
/-- every round goes well -/
theorem CI.round {n : Nat} {Q : Nat → Bool} {ss : Nat → Sc} (h6 : n ≤ 6) (x : CI n Q ss) (dr : Nat → Int) : ∃ ss', GoodR n Q dr ss ss' ∧ CI n Q ss' ∧ ∃ K, rH Q (rT Q dr (ss, []) n) K = (ss', []) := by
  obtain ⟨h1, _, h3, h4⟩ := x.ticks dr n (Nat.le_refl _)
  have hE := sE_le (Q := Q) (ss := ss) n (fun i i1 i2 hi => (x i i1 i2 hi).1.el)
  have hP : Ph n Q (rT Q dr (ss, []) n) ≤ 144 := by
    unfold Ph
    rw [h4]; omega
  obtain ⟨K, k1, k2, k3, k4⟩ := RV.run 144 (rT Q dr (ss, []) n) h1 hP
  have hK : rH Q (rT Q dr (ss, []) n) K = ((rH Q (rT Q dr (ss, []) n) K).1, []) := Prod.ext rfl k2
  refine ⟨(rH Q (rT Q dr (ss, []) n) K).1, ⟨fun k hk => ?_, fun k f r hfr => ?_, K, by omega, hK, k3⟩, fun i i1 i2 hi => ⟨k4.v i i1 i2 hi, ?_⟩, K, hK⟩
  · obtain ⟨_, _, g3, _⟩ := x.ticks dr k hk
    have := wts_len (rT Q dr (ss, []) k).2
    omega
  · obtain ⟨g1, g2⟩ := RV.all h1 k
    rw [hfr] at g1
    obtain ⟨j, j1, j2, hj, hf⟩ := g1.fr f List.mem_cons_self
    refine ⟨⟨hf.d1, hf.d2, by rw [hf.frm]; omega, by rw [hf.frm]; omega, hf.r6, fun m hm => (hf.rw m hm).good h6⟩, ?_⟩
    have g3 : wts (rH Q (rT Q dr (ss, []) n) k).2 ≤ 144 := by unfold Ph at g2 hP; omega
    have g4 := wts_len (rH Q (rT Q dr (ss, []) n) k).2
    rw [hfr] at g4 g3
    simp only [List.length_cons] at g4
    have := hear_len ((rH Q (rT Q dr (ss, []) n) k).1 f.dst.toNat) f
    omega
  · rcases k4.pb i i1 i2 hi with h | ⟨_, f, hf, _⟩
    · exact h
    · cases hf
theorem vu_new {n i : Nat} (Q : Nat → Bool) (h6 : n ≤ 6) (i1 : 1 ≤ i) (i2 : i ≤ n) (hq : Q i = false) : Vu n Q i (new i n) := by
  refine ⟨h6, i1, i2, hq, rfl, rfl, fun k hk => ?_, fun k k1 k2 => ⟨0, ?_, by omega, by omega, fun _ => rfl⟩, fun k hk => ?_, fun k hk => (by cases hk), ?_, fun e he => (by cases he), Nat.zero_le _⟩
  · show f0 n k = none
    rw [f0_at n h6, if_neg hk]
  · show f0 n k = _
    rw [f0_at n h6, if_pos (by omega)]
  · exact absurd hk (by show ¬ (0 : Int) < 0; omega)
  · show (0 : Int) ≤ 0 ∧ (0 : Int) ≤ n ∧ (0 : Int) ≠ i
    omega
theorem ci_new {n : Nat} (Q : Nat → Bool) (h6 : n ≤ 6) : CI n Q (fun i => new i n) := fun i i1 i2 hi => ⟨vu_new Q h6 i1 i2 hi, fun ho => by
  unfold isOpen at ho
  simp [new] at ho⟩
/-- some become silent -/
theorem CI.quiet {n : Nat} {ss : Nat → Sc} (x : CI n (fun _ => false) ss) (Q : Nat → Bool) : CI n Q ss := fun i i1 i2 hi => by
  obtain ⟨v, d⟩ := x i i1 i2 rfl
  refine ⟨⟨v.n6, v.i1, v.i2, hi, v.hme, v.hn, v.dm, fun k k1 k2 => ?_, fun k hk => ?_, v.ln, v.pn, v.ea, v.el⟩, fun ho => ?_⟩
  · obtain ⟨st, g1, g2, g3, g4⟩ := v.wd k k1 k2
    exact ⟨st, g1, g2, g3, fun _ => g4 rfl⟩
  · obtain ⟨j, st, _, _, hq, _⟩ := v.fw k hk
    cases hq
  · have := d ho
    cases this
end Go.Proofs.Ytebmgajijjhinaa.SO

/- One scout through a round: on lists. -/
namespace Go.Proofs.Ytebmgajijjhinaa.SO
set_option linter.unusedVariables false
set_option linter.unusedSimpArgs false

/-- what frames do to a scout -/
structure Hv (s s' : Sc) : Prop where
  now : s'.now = s.now
  line : s'.line = s.line
  pn : s'.pn = s.pn
  w : ∀ k, (s'.f k = s.f k ∧ s'.sn k = s.sn k) ∨ ∃ m m', s.f k = some m ∧ s'.f k = some m' ∧ K.above m' m = true ∧ s'.sn k = s.now
theorem Hv.refl (s : Sc) : Hv s s := ⟨rfl, rfl, rfl, fun k => Or.inl ⟨rfl, rfl⟩⟩
theorem Hv.trans {a b c : Sc} (x : Hv a b) (y : Hv b c) : Hv a c := by
  refine ⟨y.now.trans x.now, y.line.trans x.line, y.pn.trans x.pn, fun k => ?_⟩
  rcases x.w k with ⟨x1, x2⟩ | ⟨m, m', x1, x2, x3, x4⟩
  · rcases y.w k with ⟨y1, y2⟩ | ⟨q, q', y1, y2, y3, y4⟩
    · exact Or.inl ⟨y1.trans x1, y2.trans x2⟩
    · exact Or.inr ⟨q, q', by rw [← x1]; exact y1, y2, y3, y4.trans x.now⟩
  · rcases y.w k with ⟨y1, y2⟩ | ⟨q, q', y1, y2, y3, y4⟩
    · exact Or.inr ⟨m, m', x1, y1.trans x2, x3, y2.trans x4⟩
    · rw [x2] at y1
      cases y1
      exact Or.inr ⟨m, q', x1, y2, above_trans y3 x3, y4.trans x.now⟩
theorem Hv.like {s s' : Sc} (h1 : s'.now = s.now) (h2 : s'.line = s.line) (h3 : s'.pn = s.pn) (h4 : s'.f = s.f) (h5 : s'.sn = s.sn) : Hv s s' := ⟨h1, h2, h3, fun k => Or.inl ⟨by rw [h4], by rw [h5]⟩⟩
theorem hv_learn {s : Sc} {m : K.Me} (h : ∃ o, s.f m.1 = some o) : Hv s (learn s m) := by
  obtain ⟨o, ho⟩ := h
  unfold learn
  split
  · rename_i hn
    refine ⟨rfl, rfl, rfl, fun k => ?_⟩
    have hs : K.stp s.f m = fun k => if k = m.1 then some m else s.f k := by unfold K.stp; rw [if_pos hn]
    by_cases e : k = m.1
    · subst e
      refine Or.inr ⟨o, m, ho, ?_, ?_, ?_⟩
      · show K.stp s.f m m.1 = some m
        rw [hs]; exact if_pos rfl
      · unfold K.news at hn
        rw [Bool.and_eq_true, ho] at hn
        exact hn.2
      · exact if_pos rfl
    · refine Or.inl ⟨?_, if_neg e⟩
      show K.stp s.f m k = s.f k
      rw [hs]; exact if_neg e
  · exact Hv.refl s
theorem hv_tellS : ∀ (l : List Fr) (s : Sc), Hv s (tellS s l)
  | [], s => Hv.refl s
  | y :: r, s => (Hv.like (s := s) (s' := (tell1 s y).1) rfl rfl rfl rfl rfl).trans (hv_tellS r (tell1 s y).1)
theorem hv_act (s : Sc) (f : Fr) : Hv s (act s f).1 := by
  unfold act
  split
  · exact hv_tellS _ s
  · split
    · unfold errand
      split
      · exact (Hv.like (s := s) (s' := { s with seq := s.seq + 1, er := addE s.er ⟨s.seq + 1, f.node, f.frm, f.seq, false⟩ }) rfl rfl rfl rfl rfl).trans (hv_tellS _ _)
      · exact Hv.refl s
    · split
      · have hp : Hv s (pHear s f) := by unfold pHear; split; exact Hv.like rfl rfl rfl rfl rfl; exact Hv.refl s
        unfold ackE
        split
        · exact (hp.trans (Hv.like (s := pHear s f) (s' := { pHear s f with er := closeL f (pHear s f).er }) rfl rfl rfl rfl rfl)).trans (hv_tellS _ _)
        · exact hp
      · exact Hv.refl s
theorem Vu.hv_rums {n : Nat} {Q : Nat → Bool} {i : Nat} : ∀ (l : List K.Me) {s : Sc}, Vu n Q i s → (∀ m ∈ l, QW n Q m) → Hv s (SO.rums s l)
  | [], s, x, _ => Hv.refl s
  | m :: r, s, x, h => by
    have hm := h m List.mem_cons_self
    have h1 : Hv s (SO.rum s m) := by
      have hne : ¬ (m.1 == s.me) = true := by
        obtain ⟨j, st, h1, h2, h3, rfl, _⟩ := id hm
        rw [x.hme, beq_iff_eq]
        intro e
        have e' : (j : Int) = (i : Int) := e
        have : j = i := by omega
        rw [this, x.qi] at h3; cases h3
      unfold SO.rum
      rw [if_pos (by simp at hne ⊢; exact Or.inl hne)]
      unfold SO.rum1
      split
      · obtain ⟨j, st, g1, g2, _, rfl, _⟩ := id hm
        obtain ⟨st', e, _⟩ := x.wd j g1 g2
        exact hv_learn ⟨_, e⟩
      · exact Hv.refl s
    exact h1.trans (Vu.hv_rums r (x.rum hm) (fun y hy => h y (List.mem_cons_of_mem _ hy)))
theorem Vu.hv {n : Nat} {Q : Nat → Bool} {i j : Nat} {s : Sc} (x : Vu n Q i s) {f : Fr} (hf : FW n Q j f) (j1 : 1 ≤ j) (j2 : j ≤ n) (hj : Q j = false) : Hv s (SO.hear s f).1 := by
  unfold SO.hear
  split
  · rw [x.heed hf j1 j2 hj]
    have y := Vu.rums f.rum x hf.rw
    rw [y.left, if_neg (by decide)]
    exact (Vu.hv_rums f.rum x hf.rw).trans (hv_act _ f)
  · exact Hv.refl s
/-- one scout while frames come -/
theorem RV.one {n : Nat} {Q : Nat → Bool} {S : (Nat → Sc) × List Fr} (x : RV n Q S.1 S.2) {i : Nat} (i1 : 1 ≤ i) (i2 : i ≤ n) (hi : Q i = false) : ∀ k, Hv (S.1 i) ((rH Q S k).1 i)
  | 0 => Hv.refl _
  | k + 1 => by
    refine (RV.one x i1 i2 hi k).trans ?_
    obtain ⟨h1, _⟩ := RV.all x k
    show Hv ((rH Q S k).1 i) ((hr1 Q (rH Q S k)).1 i)
    generalize rH Q S k = T at *
    obtain ⟨ss, net⟩ := T
    cases net with
    | nil => exact Hv.refl _
    | cons f r =>
      obtain ⟨j, j1, j2, hj, hf⟩ := h1.fr f List.mem_cons_self
      unfold hr1
      simp only
      split
      · by_cases e : i = f.dst.toNat
        · have hu : up ss f.dst.toNat (hear (ss f.dst.toNat) f).1 i = (hear (ss i) f).1 := by rw [← e]; exact if_pos rfl
          show Hv (ss i) (up ss f.dst.toNat (hear (ss f.dst.toNat) f).1 i)
          rw [hu]
          exact (h1.v i i1 i2 hi).hv hf j1 j2 hj
        · have hu : up ss f.dst.toNat (hear (ss f.dst.toNat) f).1 i = ss i := if_neg e
          show Hv (ss i) (up ss f.dst.toNat (hear (ss f.dst.toNat) f).1 i)
          rw [hu]
          exact Hv.refl _
      · exact Hv.refl _
theorem rT_at {Q : Nat → Bool} {dr : Nat → Int} {ss : Nat → Sc} : ∀ (k i : Nat), 1 ≤ i → Q i = false → (rT Q dr (ss, []) k).1 i = if i ≤ k then (tick (ss i) (dr i)).1 else ss i
  | 0, i, h, _ => by rw [if_neg (by omega)]; rfl
  | k + 1, i, h, hq => by
    have ih := rT_at (Q := Q) (dr := dr) (ss := ss) k i h hq
    show (if Q (k + 1) = true then rT Q dr (ss, []) k else tk1 dr (rT Q dr (ss, []) k) (k + 1)).1 i = _
    by_cases hk : Q (k + 1) = true
    · rw [if_pos hk, ih]
      have hne : i ≠ k + 1 := fun e => by rw [e, hk] at hq; cases hq
      by_cases h1 : i ≤ k
      · rw [if_pos h1, if_pos (by omega)]
      · rw [if_neg h1, if_neg (by omega)]
    · rw [if_neg hk]
      show up (rT Q dr (ss, []) k).1 (k + 1) (tick ((rT Q dr (ss, []) k).1 (k + 1)) (dr (k + 1))).1 i = _
      by_cases e : i = k + 1
      · subst e
        have hu : up (rT Q dr (ss, []) k).1 (k + 1) (tick ((rT Q dr (ss, []) k).1 (k + 1)) (dr (k + 1))).1 (k + 1) = (tick ((rT Q dr (ss, []) k).1 (k + 1)) (dr (k + 1))).1 := if_pos rfl
        rw [hu, ih, if_neg (by omega), if_pos (by omega)]
      · have hu : up (rT Q dr (ss, []) k).1 (k + 1) (tick ((rT Q dr (ss, []) k).1 (k + 1)) (dr (k + 1))).1 i = (rT Q dr (ss, []) k).1 i := if_neg e
        rw [hu, ih]
        by_cases h1 : i ≤ k
        · rw [if_pos h1, if_pos (by omega)]
        · rw [if_neg h1, if_neg (by omega)]
/-- one scout through a round: its tick, then frames -/
theorem CI.one {n : Nat} {Q : Nat → Bool} {ss ss' : Nat → Sc} (x : CI n Q ss) (dr : Nat → Int) {K : Nat} (hK : rH Q (rT Q dr (ss, []) n) K = (ss', [])) {i : Nat} (i1 : 1 ≤ i) (i2 : i ≤ n) (hi : Q i = false) : Hv (tick (ss i) (dr i)).1 (ss' i) := by
  obtain ⟨h1, _⟩ := x.ticks dr n (Nat.le_refl _)
  have h := h1.one i1 i2 hi K
  rw [hK, rT_at n i i1 hi, if_pos i2] at h
  exact h
end Go.Proofs.Ytebmgajijjhinaa.SO

/- No answer speaks of a silent node: on lists. -/
namespace Go.Proofs.Ytebmgajijjhinaa.SO
set_option linter.unusedVariables false
set_option linter.unusedSimpArgs false

/-- an answer's node is active -/
def AN (Q : Nat → Bool) (f : Fr) : Prop := f.kind = 2 → Q f.node.toNat = false
theorem tellL_an {Q : Nat → Bool} : ∀ (l : List Fr) (s : Sc), (∀ y ∈ l, AN Q y) → ∀ f ∈ tellL s l, AN Q f
  | [], s, _, f, hf => by cases hf
  | y :: r, s, h, f, hf => by
    rcases List.mem_cons.1 hf with rfl | hf
    · exact h y List.mem_cons_self
    · exact tellL_an r _ (fun y hy => h y (List.mem_cons_of_mem _ hy)) f hf
theorem an_ping (Q : Nat → Bool) (a b : Int) : AN Q (ping a b) := fun h => absurd (show (1 : Int) = 2 from h) (by decide)
theorem an_askF (Q : Nat → Bool) (a b c : Int) : AN Q (askF a b c) := fun h => absurd (show (3 : Int) = 2 from h) (by decide)
theorem act_an {Q : Nat → Bool} {s : Sc} {f : Fr} (hm : Q s.me.toNat = false) (hf : Q f.frm.toNat = false) : ∀ g ∈ (act s f).2, AN Q g := by
  unfold act
  split
  · exact tellL_an _ s (fun y hy => by rw [List.mem_singleton.1 hy]; exact fun _ => hm)
  · split
    · unfold errand
      split
      · exact tellL_an _ _ (fun y hy => by rw [List.mem_singleton.1 hy]; exact an_ping Q _ _)
      · intro g hg; cases hg
    · split
      · unfold ackE
        split
        · rename_i e he
          have h1 := List.find?_some he
          unfold fitE at h1
          have h2 : e.node = f.frm := by
            simp only [Bool.and_eq_true, beq_iff_eq] at h1
            exact h1.1.2
          exact tellL_an _ _ (fun y hy => by rw [List.mem_singleton.1 hy]; intro _; show Q e.node.toNat = false; rw [h2]; exact hf)
        · intro g hg; cases hg
      · intro g hg; cases hg
theorem hear_an {n : Nat} {Q : Nat → Bool} {i j : Nat} {s : Sc} (x : Vu n Q i s) {f : Fr} (hf : FW n Q j f) (j1 : 1 ≤ j) (j2 : j ≤ n) (hj : Q j = false) : ∀ g ∈ (SO.hear s f).2, AN Q g := by
  unfold SO.hear
  split
  · rw [x.heed hf j1 j2 hj]
    have y := Vu.rums f.rum x hf.rw
    rw [y.left, if_neg (by decide)]
    refine act_an ?_ ?_
    · rw [y.hme]; exact x.qi
    · rw [hf.frm]; exact hj
  · intro g hg; cases hg
theorem ask_an {Q : Nat → Bool} (s : Sc) (d : Int) : ∀ g ∈ (ask s d).2, AN Q g := by
  unfold ask
  split
  · exact tellL_an _ _ (fun y hy => by rw [List.mem_singleton.1 hy]; exact an_ping Q _ _)
  · split
    · exact tellL_an _ _ (fun y hy => by rw [List.mem_singleton.1 hy]; exact an_ping Q _ _)
    · intro g hg; cases hg
theorem askH_an {Q : Nat → Bool} (s : Sc) : ∀ g ∈ (askH s).2, AN Q g := by
  unfold askH
  split
  · exact tellL_an _ _ (fun y hy => by
      obtain ⟨h, _, rfl⟩ := List.mem_map.1 hy
      exact an_askF Q _ _ _)
  · intro g hg; cases hg
theorem tick_an {Q : Nat → Bool} (s : Sc) (d : Int) : ∀ g ∈ (tick s d).2, AN Q g := by
  unfold tick
  split
  · intro g hg; cases hg
  · show ∀ g ∈ (mid (tick0 s) d).2, AN Q g
    unfold mid
    split
    · exact ask_an _ _
    · split
      · exact askH_an _
      · split
        · intro g hg; cases hg
        · intro g hg; cases hg
theorem tellS_pa : ∀ (l : List Fr) (s : Sc), (tellS s l).pa = s.pa
  | [], s => rfl
  | y :: r, s => tellS_pa r (tell1 s y).1
theorem act_pa {Q : Nat → Bool} {s : Sc} {f : Fr} (hf : AN Q f) (hq : Q s.pn.toNat = true) : (act s f).1.pa = s.pa := by
  unfold act
  split
  · exact tellS_pa _ s
  · split
    · unfold errand
      split
      · exact tellS_pa _ _
      · rfl
    · split
      · rename_i hk
        have hp : pHear s f = s := by
          unfold pHear
          refine if_neg ?_
          intro h
          simp only [Bool.and_eq_true, decide_eq_true_eq] at h
          have h1 := hf hk
          rw [h.1.2, hq] at h1
          cases h1
        rw [hp]
        unfold ackE
        split
        · exact tellS_pa _ _
        · rfl
      · rfl
theorem hear_pa {n : Nat} {Q : Nat → Bool} {i j : Nat} {s : Sc} (x : Vu n Q i s) {f : Fr} (hf : FW n Q j f) (j1 : 1 ≤ j) (j2 : j ≤ n) (hj : Q j = false) (ha : AN Q f) (hq : Q s.pn.toNat = true) : (SO.hear s f).1.pa = s.pa := by
  have hp : pr (SO.rums s f.rum) = pr s := pr_rums f.rum s
  have e1 : (SO.rums s f.rum).pn = s.pn := congrArg (fun q : Int × Int × Bool × List Er => q.1) hp
  have e2 : (SO.rums s f.rum).pa = s.pa := congrArg (fun q : Int × Int × Bool × List Er => q.2.2.1) hp
  unfold SO.hear
  split
  · rw [x.heed hf j1 j2 hj]
    have y := Vu.rums f.rum x hf.rw
    rw [y.left, if_neg (by decide)]
    rw [act_pa ha (by rw [e1]; exact hq), e2]
  · rfl
/-- frames under way, and a probe of a silent node stays open -/
theorem RV.pa {n : Nat} {Q : Nat → Bool} {S : (Nat → Sc) × List Fr} (x : RV n Q S.1 S.2) (ha : ∀ f ∈ S.2, AN Q f) : ∀ k, (∀ f ∈ (rH Q S k).2, AN Q f) ∧ ∀ i, 1 ≤ i → i ≤ n → Q i = false → Q (S.1 i).pn.toNat = true → ((rH Q S k).1 i).pa = (S.1 i).pa
  | 0 => ⟨ha, fun _ _ _ _ _ => rfl⟩
  | k + 1 => by
    obtain ⟨a1, a2⟩ := RV.pa x ha k
    have hv := fun i i1 i2 hi => RV.one x (i := i) i1 i2 hi k
    obtain ⟨h1, _⟩ := RV.all x k
    show (∀ f ∈ (hr1 Q (rH Q S k)).2, AN Q f) ∧ ∀ i, 1 ≤ i → i ≤ n → Q i = false → Q (S.1 i).pn.toNat = true → ((hr1 Q (rH Q S k)).1 i).pa = (S.1 i).pa
    generalize rH Q S k = T at *
    obtain ⟨ss, net⟩ := T
    cases net with
    | nil => exact ⟨a1, a2⟩
    | cons f r =>
      obtain ⟨j, j1, j2, hj, hf⟩ := h1.fr f List.mem_cons_self
      have hd1 := hf.d1
      have hd2 := hf.d2
      unfold hr1
      simp only
      split
      · rename_i hc
        have hdq : Q f.dst.toNat = false := by
          simp only [Bool.and_eq_true, Bool.not_eq_true'] at hc
          exact hc.1
        have hvd := h1.v f.dst.toNat (by omega) (by omega) hdq
        refine ⟨fun g hg => ?_, fun i i1 i2 hi hq => ?_⟩
        · rcases List.mem_append.1 hg with hg | hg
          · exact a1 g (List.mem_cons_of_mem _ hg)
          · exact hear_an hvd hf j1 j2 hj g hg
        · by_cases e : i = f.dst.toNat
          · have hu : up ss f.dst.toNat (hear (ss f.dst.toNat) f).1 i = (hear (ss i) f).1 := by rw [← e]; exact if_pos rfl
            show (up ss f.dst.toNat (hear (ss f.dst.toNat) f).1 i).pa = _
            rw [hu, hear_pa (h1.v i i1 i2 hi) hf j1 j2 hj (a1 f List.mem_cons_self) (by rw [(hv i i1 i2 hi).pn]; exact hq)]
            exact a2 i i1 i2 hi hq
          · have hu : up ss f.dst.toNat (hear (ss f.dst.toNat) f).1 i = ss i := if_neg e
            show (up ss f.dst.toNat (hear (ss f.dst.toNat) f).1 i).pa = _
            rw [hu]
            exact a2 i i1 i2 hi hq
      · exact ⟨fun g hg => a1 g (List.mem_cons_of_mem _ hg), a2⟩
theorem rT_an {Q : Nat → Bool} {dr : Nat → Int} {ss : Nat → Sc} : ∀ k, ∀ f ∈ (rT Q dr (ss, []) k).2, AN Q f
  | 0, f, hf => by cases hf
  | k + 1, f, hf => by
    have ih := rT_an (Q := Q) (dr := dr) (ss := ss) k
    have hf' : f ∈ (if Q (k + 1) = true then rT Q dr (ss, []) k else tk1 dr (rT Q dr (ss, []) k) (k + 1)).2 := hf
    by_cases hk : Q (k + 1) = true
    · rw [if_pos hk] at hf'; exact ih f hf'
    · rw [if_neg hk] at hf'
      rcases List.mem_append.1 hf' with h | h
      · exact ih f h
      · exact tick_an _ _ f h
/-- through a round: a probe of a silent node stays as the tick left it -/
theorem CI.pa {n : Nat} {Q : Nat → Bool} {ss ss' : Nat → Sc} (x : CI n Q ss) (dr : Nat → Int) {K : Nat} (hK : rH Q (rT Q dr (ss, []) n) K = (ss', [])) {i : Nat} (i1 : 1 ≤ i) (i2 : i ≤ n) (hi : Q i = false) (hq : Q (tick (ss i) (dr i)).1.pn.toNat = true) : (ss' i).pa = (tick (ss i) (dr i)).1.pa := by
  obtain ⟨h1, _⟩ := x.ticks dr n (Nat.le_refl _)
  have e : (rT Q dr (ss, []) n).1 i = (tick (ss i) (dr i)).1 := by rw [rT_at n i i1 hi, if_pos i2]
  have h := (RV.pa h1 (rT_an n) K).2 i i1 i2 hi (by rw [e]; exact hq)
  rw [hK, e] at h
  exact h
end Go.Proofs.Ytebmgajijjhinaa.SO

/- What a tick does to words: on lists. -/
namespace Go.Proofs.Ytebmgajijjhinaa.SO
set_option linter.unusedVariables false
set_option linter.unusedSimpArgs false

/-- words only rise -/
structure Hw (s s' : Sc) : Prop where
  now : s'.now = s.now
  w : ∀ k, (s'.f k = s.f k ∧ s'.sn k = s.sn k) ∨ ∃ m m', s.f k = some m ∧ s'.f k = some m' ∧ K.above m' m = true ∧ s'.sn k = s.now
theorem Hv.hw {s s' : Sc} (h : Hv s s') : Hw s s' := ⟨h.now, h.w⟩
theorem Hw.refl (s : Sc) : Hw s s := (Hv.refl s).hw
theorem Hw.trans {a b c : Sc} (x : Hw a b) (y : Hw b c) : Hw a c := by
  refine ⟨y.now.trans x.now, fun k => ?_⟩
  rcases x.w k with ⟨x1, x2⟩ | ⟨m, m', x1, x2, x3, x4⟩
  · rcases y.w k with ⟨y1, y2⟩ | ⟨q, q', y1, y2, y3, y4⟩
    · exact Or.inl ⟨y1.trans x1, y2.trans x2⟩
    · exact Or.inr ⟨q, q', by rw [← x1]; exact y1, y2, y3, y4.trans x.now⟩
  · rcases y.w k with ⟨y1, y2⟩ | ⟨q, q', y1, y2, y3, y4⟩
    · exact Or.inr ⟨m, m', x1, y1.trans x2, x3, y2.trans x4⟩
    · rw [x2] at y1
      cases y1
      exact Or.inr ⟨m, q', x1, y2, above_trans y3 x3, y4.trans x.now⟩
theorem Hw.like {s s' : Sc} (h1 : s'.now = s.now) (h4 : s'.f = s.f) (h5 : s'.sn = s.sn) : Hw s s' := ⟨h1, fun k => Or.inl ⟨by rw [h4], by rw [h5]⟩⟩
theorem Vu.hv_turn {n : Nat} {Q : Nat → Bool} {i : Nat} {s : Sc} (x : Vu n Q i s) {k : Nat} (h1 : 1 ≤ k) (h2 : k ≤ n) (st : Int) : Hv s (SO.turn s k st) := by
  obtain ⟨st', e, _⟩ := x.of h1 h2
  obtain ⟨st2, e2, _⟩ := x.wd k h1 h2
  unfold SO.turn
  rw [e]
  exact hv_learn ⟨_, e2⟩
theorem Vu.hv_gone {n : Nat} {Q : Nat → Bool} {i : Nat} : ∀ (ks : List Int) {s : Sc}, Vu n Q i s → (∀ k ∈ ks, ∃ j : Nat, k = j ∧ 1 ≤ j ∧ j ≤ n ∧ Q j = true) → Hv s (SO.gone s ks)
  | [], s, x, _ => Hv.refl s
  | k :: r, s, x, h => by
    obtain ⟨j, rfl, j1, j2, hq⟩ := h k List.mem_cons_self
    exact (x.hv_turn j1 j2 2).trans (Vu.hv_gone r (x.turn j1 j2 hq (by omega) (by omega)) (fun k hk => h k (List.mem_cons_of_mem _ hk)))
theorem Vu.late {n : Nat} {Q : Nat → Bool} {i : Nat} {s : Sc} (x : Vu n Q i s) : ∀ k ∈ those s (overdue s), ∃ j : Nat, k = j ∧ 1 ≤ j ∧ j ≤ n ∧ Q j = true := fun k hk => by
  obtain ⟨j, rfl, j1, j2, st, hp, hf, s1, s2, hq⟩ := x.absent hk
  refine ⟨j, rfl, j1, j2, ?_⟩
  cases hqj : Q j with
  | true => rfl
  | false =>
    have := hq hqj
    subst this
    unfold overdue at hp
    simp at hp
theorem Vu.hv_over {n : Nat} {Q : Nat → Bool} {i : Nat} {s : Sc} (x : Vu n Q i s) : Hv s (SO.over s) := x.hv_gone _ x.late
/-- the state of a word -/
def stt (s : Sc) (j : Nat) : Int := (of s j).2.2
theorem Vu.stt_of {n : Nat} {Q : Nat → Bool} {i : Nat} {s : Sc} (x : Vu n Q i s) {j : Nat} (h1 : 1 ≤ j) (h2 : j ≤ n) : s.f j = some ((j : Int), 0, stt s j) ∧ 0 ≤ stt s j ∧ stt s j ≤ 2 := by
  obtain ⟨st, e, s1, s2, _⟩ := x.wd j h1 h2
  have : stt s j = st := by unfold stt SO.of; rw [e]; rfl
  rw [this]
  exact ⟨e, s1, s2⟩
theorem above_st {a b c : Int} (h : K.above (a, 0, b) (a, 0, c) = true) : c < b := by
  rw [K.above_eq] at h
  simp only [Bool.and_eq_true] at h
  have h2 := h.2
  unfold K.hi at h2
  simp at h2
  omega
theorem Hw.stt {n : Nat} {Q : Nat → Bool} {i : Nat} {s s' : Sc} (h : Hw s s') (x : Vu n Q i s) (y : Vu n Q i s') {j : Nat} (h1 : 1 ≤ j) (h2 : j ≤ n) : (stt s' j = SO.stt s j ∧ s'.sn j = s.sn j) ∨ (SO.stt s j < SO.stt s' j ∧ s'.sn j = s.now) := by
  have a := (x.stt_of h1 h2).1
  have b := (y.stt_of h1 h2).1
  rcases h.w j with ⟨e1, e2⟩ | ⟨m, m', e1, e2, e3, e4⟩
  · refine Or.inl ⟨?_, e2⟩
    unfold SO.stt SO.of
    rw [e1]
  · rw [a] at e1
    rw [b] at e2
    cases e1
    cases e2
    exact Or.inr ⟨above_st e3, e4⟩
theorem Hw.le {n : Nat} {Q : Nat → Bool} {i : Nat} {s s' : Sc} (h : Hw s s') (x : Vu n Q i s) (y : Vu n Q i s') {j : Nat} (h1 : 1 ≤ j) (h2 : j ≤ n) : SO.stt s j ≤ SO.stt s' j := by
  rcases h.stt x y h1 h2 with h | h <;> omega
theorem Vu.turn_stt {n : Nat} {Q : Nat → Bool} {i : Nat} {s : Sc} (x : Vu n Q i s) {j : Nat} (h1 : 1 ≤ j) (h2 : j ≤ n) (hq : Q j = true) {st : Int} (s1 : 0 ≤ st) (s2 : st ≤ 2) : st ≤ stt (SO.turn s j st) j := by
  have a := x.stt_of h1 h2
  by_cases hlt : stt s j < st
  · have e : SO.of s j = ((j : Int), 0, stt s j) := by
      unfold SO.of; rw [a.1]; rfl
    have hn : K.news s.f ((j : Int), 0, st) = true := by
      have hn6 := x.n6
      unfold K.news
      show (K.good ((j : Int), 0, st) && (match s.f (j : Int) with | none => true | some o => K.above ((j : Int), 0, st) o)) = true
      rw [a.1]
      show (K.good ((j : Int), 0, st) && K.above ((j : Int), 0, st) ((j : Int), 0, stt s j)) = true
      rw [K.above_eq]
      unfold K.good K.hi
      simp
      omega
    have hs : K.stp s.f ((j : Int), 0, st) = fun k => if k = (j : Int) then some ((j : Int), 0, st) else s.f k := by unfold K.stp; rw [if_pos hn]
    have : (SO.turn s j st).f (j : Int) = some ((j : Int), 0, st) := by
      unfold SO.turn
      rw [e]
      unfold SO.learn
      rw [if_pos hn]
      show K.stp s.f ((j : Int), 0, st) j = _
      rw [hs]; exact if_pos rfl
    unfold SO.stt SO.of
    rw [this]
    exact Int.le_refl _
  · have := (x.hv_turn h1 h2 st).hw.le x (x.turn h1 h2 hq s1 s2) h1 h2
    omega
theorem Vu.gone_two {n : Nat} {Q : Nat → Bool} {i : Nat} : ∀ (ks : List Int) {s : Sc} (x : Vu n Q i s) (h : ∀ k ∈ ks, ∃ j : Nat, k = j ∧ 1 ≤ j ∧ j ≤ n ∧ Q j = true) {j : Nat}, 1 ≤ j → j ≤ n → (j : Int) ∈ ks → stt (SO.gone s ks) j = 2
  | [], s, x, _, j, _, _, hj => by cases hj
  | k :: r, s, x, h, j, j1, j2, hj => by
    obtain ⟨q, rfl, q1, q2, hq⟩ := h k List.mem_cons_self
    have y := x.turn q1 q2 hq (st := 2) (by omega) (by omega)
    have hr := fun k hk => h k (List.mem_cons_of_mem _ hk)
    show stt (SO.gone (SO.turn s q 2) r) j = 2
    rcases List.mem_cons.1 hj with e | e
    · have e' : j = q := by omega
      subst e'
      have a := x.turn_stt q1 q2 hq (st := 2) (by omega) (by omega)
      have b := (y.hv_gone r hr).hw.le y (y.gone r hr) j1 j2
      have c := ((y.gone r hr).stt_of j1 j2).2.2
      omega
    · exact Vu.gone_two r y hr j1 j2 e
/-- who is doubted for eight ticks is gone -/
theorem Vu.over_two {n : Nat} {Q : Nat → Bool} {i : Nat} {s : Sc} (x : Vu n Q i s) {j : Nat} (h1 : 1 ≤ j) (h2 : j ≤ n) (hs : stt s j = 1) (ht : s.now - s.sn j ≥ 8) : stt (SO.over s) j = 2 := by
  refine x.gone_two _ x.late h1 h2 ?_
  have a := (x.stt_of h1 h2).1
  have hn6 := x.n6
  unfold those
  refine List.mem_map.2 ⟨((j : Int), 0, stt s j), List.mem_filter.2 ⟨?_, ?_⟩, rfl⟩
  · unfold K.all K.allN
    refine List.mem_filterMap.2 ⟨j - 1, List.mem_range.2 (by omega), ?_⟩
    have e : ((j - 1 : Nat) : Int) + 1 = (j : Int) := by omega
    rw [e]; exact a
  · unfold overdue
    simp [hs]
    exact ht
end Go.Proofs.Ytebmgajijjhinaa.SO

/- A tick and a round, and the words of silent nodes: on lists. -/
namespace Go.Proofs.Ytebmgajijjhinaa.SO
set_option linter.unusedVariables false
set_option linter.unusedSimpArgs false

theorem hw_tellS (l : List Fr) (s : Sc) : Hw s (tellS s l) := (hv_tellS l s).hw
theorem hw_nextL {s s' : Sc} {d : Int} {o : Option Int} (h : nextL s d = (o, s')) : Hw s s' := by
  unfold nextL at h
  split at h
  · cases h; exact Hw.like rfl rfl rfl
  · split at h
    · cases h; exact Hw.like rfl rfl rfl
    · cases h; exact Hw.like rfl rfl rfl
theorem hw_ask (s : Sc) (d : Int) : Hw s (ask s d).1 := by
  have h0 : Hw s (ask0 s) := Hw.like rfl rfl rfl
  unfold ask
  split
  · rename_i k _
    exact (h0.trans (Hw.like (s := ask0 s) (s' := ask1 (remind (ask0 s) k) k) rfl rfl rfl)).trans (hw_tellS _ _)
  · split
    · rename_i k s' hx
      exact ((h0.trans (hw_nextL hx)).trans (Hw.like (s := s') (s' := ask1 s' k) rfl rfl rfl)).trans (hw_tellS _ _)
    · rename_i s' hx
      exact h0.trans (hw_nextL hx)
theorem Vu.hw_doubt {n : Nat} {Q : Nat → Bool} {i : Nat} {s : Sc} (x : Vu n Q i s) : Hw s (SO.doubt s) := by
  unfold SO.doubt
  split
  · rename_i h
    rw [Bool.and_eq_true] at h
    have hpn := x.pn
    have hp0 : s.pn ≠ 0 := fun e => by
      have := h.1
      unfold isOpen at this
      rw [e] at this
      simp at this
    have e : s.pn = ((s.pn.toNat : Nat) : Int) := by omega
    rw [e]
    exact (x.hv_turn (by omega) (by omega) 1).hw
  · exact Hw.refl s
theorem Vu.hw_mid {n : Nat} {Q : Nat → Bool} {i : Nat} {s : Sc} (x : Vu n Q i s) (d : Int) : Hw s (SO.mid s d).1 := by
  unfold SO.mid
  split
  · exact hw_ask s d
  · split
    · unfold askH
      split
      · exact (Hw.like (s := s) (s' := { s with ph := helpers s }) rfl rfl rfl).trans (hw_tellS _ _)
      · exact Hw.refl s
    · split
      · exact x.hw_doubt
      · exact Hw.refl s
theorem Vu.tick0 {n : Nat} {Q : Nat → Bool} {i : Nat} {s : Sc} (x : Vu n Q i s) : Vu n Q i (SO.tick0 s) := x.like rfl rfl rfl x.fw x.ln x.pn x.ea x.el
theorem Vu.tick_eq {n : Nat} {Q : Nat → Bool} {i : Nat} {s : Sc} (x : Vu n Q i s) (d : Int) : (SO.tick s d).1 = SO.over (SO.mid (SO.tick0 s) d).1 := by
  unfold SO.tick
  rw [x.tick0.left, if_neg (by decide)]
theorem Vu.hw_tick {n : Nat} {Q : Nat → Bool} {i : Nat} {s : Sc} (x : Vu n Q i s) (hd : Dbt Q s) (d : Int) : Hw (SO.tick0 s) (SO.tick s d).1 := by
  rw [x.tick_eq]
  exact (x.tick0.hw_mid d).trans (x.tick0.mid hd d).1.hv_over.hw
/-- eight ticks on -/
theorem Vu.tick_two {n : Nat} {Q : Nat → Bool} {i : Nat} {s : Sc} (x : Vu n Q i s) (hd : Dbt Q s) (d : Int) {j : Nat} (h1 : 1 ≤ j) (h2 : j ≤ n) (hs : 1 ≤ stt s j) (ht : stt s j = 1 → s.now + 1 - s.sn j ≥ 8) : stt (SO.tick s d).1 j = 2 := by
  have y := (x.tick0.mid hd d).1
  have z := y.over
  rw [x.tick_eq]
  have hm := x.tick0.hw_mid d
  have a := hm.stt x.tick0 y h1 h2
  have b := y.hv_over.hw.le y z h1 h2
  have c := (z.stt_of h1 h2).2.2
  have e0 : stt (SO.tick0 s) j = stt s j := rfl
  have e1 : (SO.tick0 s).now = s.now + 1 := rfl
  have e2 : (SO.tick0 s).sn j = s.sn j := rfl
  have g := (x.stt_of h1 h2).2.2
  have g2 := (y.stt_of h1 h2).2.2
  by_cases hk : stt (SO.mid (SO.tick0 s) d).1 j = 1
  · rcases a with ⟨a1, a2⟩ | ⟨a1, _⟩
    · have hs1 : stt s j = 1 := by omega
      exact y.over_two h1 h2 hk (by rw [hm.now, a2, e1, e2]; exact ht hs1)
    · omega
  · rcases a with ⟨a1, a2⟩ | ⟨a1, _⟩ <;> omega
/-- a probe that stays open makes doubt -/
theorem Vu.tick_doubt {n : Nat} {Q : Nat → Bool} {i : Nat} {s : Sc} (x : Vu n Q i s) (hd : Dbt Q s) (d : Int) {j : Nat} (h1 : 1 ≤ j) (h2 : j ≤ n) (hq : Q j = true) (hp : s.pn = j) (ha : s.pa = false) (ht : s.now.tmod 4 = 3) : 1 ≤ stt (SO.tick s d).1 j := by
  have y := (x.tick0.mid hd d).1
  have z := y.over
  rw [x.tick_eq]
  have b := y.hv_over.hw.le y z h1 h2
  have e : (SO.mid (SO.tick0 s) d).1 = SO.doubt (SO.tick0 s) := by
    have e1 : (SO.tick0 s).now - 1 = s.now := by show s.now + 1 - 1 = s.now; omega
    unfold SO.mid
    rw [e1, ht, if_neg (by decide), if_neg (by decide), if_pos rfl]
  rw [e] at b y ⊢
  have hop : isOpen (SO.tick0 s) = true := by
    unfold isOpen
    show (!(s.pn == 0) && !s.pa) = true
    rw [ha, hp]
    simp
    omega
  have g := x.stt_of h1 h2
  have c : 1 ≤ stt (SO.doubt (SO.tick0 s)) j := by
    by_cases h0 : stt s j = 0
    · have hc : (isOpen (SO.tick0 s) && ((SO.of (SO.tick0 s) (SO.tick0 s).pn).2.2 == 0)) = true := by
        rw [hop]
        show (true && ((SO.of s s.pn).2.2 == 0)) = true
        rw [hp]
        show (true && (stt s j == 0)) = true
        rw [h0]; rfl
      unfold SO.doubt
      rw [if_pos hc]
      show 1 ≤ stt (SO.turn (SO.tick0 s) s.pn 1) j
      rw [hp]
      exact x.tick0.turn_stt h1 h2 hq (by omega) (by omega)
    · have := x.tick0.hw_doubt.le x.tick0 y h1 h2
      have e0 : stt (SO.tick0 s) j = stt s j := rfl
      omega
  omega
end Go.Proofs.Ytebmgajijjhinaa.SO

/- How long until a node is asked: on lists. -/
namespace Go.Proofs.Ytebmgajijjhinaa.SO
set_option linter.unusedVariables false
set_option linter.unusedSimpArgs false

/-- how many askings out of the line until j is asked, at most -/
def pot (l : List Int) (j : Int) : Nat := if j ∈ l then l.idxOf j + 1 else l.length + 7
theorem pot_le {l : List Int} {j : Int} (h : l.length ≤ 6) : pot l j ≤ 13 := by
  unfold pot
  split
  · rename_i hm
    have := List.idxOf_lt_length_of_mem hm
    omega
  · omega
theorem pot_pos (l : List Int) (j : Int) : 1 ≤ pot l j := by unfold pot; split <;> omega
theorem pot_cons {x j : Int} {r : List Int} (h : x ≠ j) : pot r j < pot (x :: r) j := by
  unfold pot
  by_cases hm : j ∈ r
  · rw [if_pos hm, if_pos (List.mem_cons_of_mem _ hm), List.idxOf_cons]
    have : (x == j) = false := by simp [h]
    rw [this]
    simp
  · have : ¬ j ∈ x :: r := fun hh => by
      rcases List.mem_cons.1 hh with e | e
      · exact h e.symm
      · exact hm e
    rw [if_neg hm, if_neg this, List.length_cons]
    omega
theorem pot_drop {p : Int → Bool} {j : Int} (hp : p j = false) : ∀ l : List Int, pot (l.dropWhile p) j ≤ pot l j
  | [] => Nat.le_refl _
  | x :: r => by
    by_cases h : p x = true
    · rw [List.dropWhile_cons_of_pos h]
      have hne : x ≠ j := fun e => by rw [e, hp] at h; cases h
      exact Nat.le_trans (pot_drop hp r) (Nat.le_of_lt (pot_cons hne))
    · rw [List.dropWhile_cons_of_neg h]
      exact Nat.le_refl _
theorem len_drop {p : Int → Bool} : ∀ l : List Int, (l.dropWhile p).length ≤ l.length
  | [] => Nat.le_refl _
  | x :: r => by
    by_cases h : p x = true
    · rw [List.dropWhile_cons_of_pos h, List.length_cons]
      exact Nat.le_succ_of_le (len_drop r)
    · rw [List.dropWhile_cons_of_neg h]
      exact Nat.le_refl _
theorem oth_len (s : Sc) : (oth s).length ≤ 6 := by
  unfold oth
  refine Nat.le_trans (List.length_filter_le _ _) ?_
  unfold K.pres
  rw [List.length_map]
  refine Nat.le_trans (List.length_filter_le _ _) ?_
  unfold K.all K.allN
  refine Nat.le_trans (List.length_filterMap_le _ _) ?_
  rw [List.length_range]
  exact Nat.le_refl _
theorem nextL_len {s s' : Sc} {d : Int} {o : Option Int} (h : nextL s d = (o, s')) (hl : s.line.length ≤ 6) : s'.line.length ≤ 6 := by
  unfold nextL at h
  split at h
  · rename_i x r e
    cases h
    have := len_drop (p := fun k => !isP s k) s.line
    rw [e, List.length_cons] at this
    show r.length ≤ 6
    omega
  · split at h
    · rename_i x r e
      cases h
      have h1 := (mix_perm (oth s) d).length_eq
      have h2 := oth_len s
      rw [e, List.length_cons] at h1
      show r.length ≤ 6
      omega
    · cases h; exact Nat.zero_le _
theorem nextL_pot {s s' : Sc} {d : Int} {o : Option Int} (h : nextL s d = (o, s')) {j : Int} (hp : isP s j = true) (ho : j ∈ oth s) : o = some j ∨ pot s'.line j < pot s.line j := by
  unfold nextL at h
  have hd := pot_drop (p := fun k => !isP s k) (j := j) (by rw [hp]; rfl) s.line
  split at h
  · rename_i x r e
    cases h
    by_cases hx : x = j
    · exact Or.inl (by rw [hx])
    · refine Or.inr ?_
      rw [e] at hd
      exact Nat.lt_of_lt_of_le (pot_cons hx) hd
  · rename_i e0
    rw [e0] at hd
    have hd7 : 7 ≤ pot s.line j := by
      have : pot [] j = 7 := rfl
      omega
    have hm : j ∈ mix (oth s) d := (mix_perm (oth s) d).mem_iff.2 ho
    have h1 := (mix_perm (oth s) d).length_eq
    have h2 := oth_len s
    split at h
    · rename_i x r e
      cases h
      rw [e] at hm h1
      rcases List.mem_cons.1 hm with hx | hx
      · exact Or.inl (by rw [hx])
      · refine Or.inr ?_
        show pot r j < _
        have h3 := List.idxOf_lt_length_of_mem hx
        unfold pot at hd7 ⊢
        rw [if_pos hx]
        rw [List.length_cons] at h1
        omega
    · rename_i e
      rw [e] at hm; cases hm
end Go.Proofs.Ytebmgajijjhinaa.SO

/- A tick, the line and the probe: on lists. -/
namespace Go.Proofs.Ytebmgajijjhinaa.SO
set_option linter.unusedVariables false
set_option linter.unusedSimpArgs false

theorem Vu.here {n : Nat} {Q : Nat → Bool} {i : Nat} {s : Sc} (x : Vu n Q i s) {j : Nat} (h1 : 1 ≤ j) (h2 : j ≤ n) (hs : stt s j ≤ 1) : (j : Int) ∈ K.pres s.f := by
  have a := x.stt_of h1 h2
  have hn6 := x.n6
  unfold K.pres
  refine List.mem_map.2 ⟨((j : Int), 0, stt s j), List.mem_filter.2 ⟨?_, ?_⟩, rfl⟩
  · unfold K.all K.allN
    refine List.mem_filterMap.2 ⟨j - 1, List.mem_range.2 (by omega), ?_⟩
    have e : ((j - 1 : Nat) : Int) + 1 = (j : Int) := by omega
    rw [e]; exact a.1
  · unfold K.here
    simp
    omega
theorem Vu.isP_of {n : Nat} {Q : Nat → Bool} {i : Nat} {s : Sc} (x : Vu n Q i s) {j : Nat} (h1 : 1 ≤ j) (h2 : j ≤ n) (hs : stt s j ≤ 1) : isP s j = true := by
  unfold isP
  exact List.contains_iff_mem.2 (x.here h1 h2 hs)
theorem Vu.oth_of {n : Nat} {Q : Nat → Bool} {i : Nat} {s : Sc} (x : Vu n Q i s) {j : Nat} (h1 : 1 ≤ j) (h2 : j ≤ n) (hs : stt s j ≤ 1) (hne : j ≠ i) : (j : Int) ∈ SO.oth s := by
  unfold SO.oth
  refine List.mem_filter.2 ⟨x.here h1 h2 hs, ?_⟩
  rw [x.hme]
  simp
  omega
theorem tellS_line (l : List Fr) (s : Sc) : (tellS s l).line = s.line ∧ (tellS s l).pn = s.pn ∧ (tellS s l).pa = s.pa := ⟨(hv_tellS l s).line, (hv_tellS l s).pn, tellS_pa l s⟩
theorem over_pa (s : Sc) : (over s).pa = s.pa := congrArg (fun q : Int × Int × Bool × List Er => q.2.2.1) (pr_over s)
/-- an asking -/
theorem Vu.ask_pot {n : Nat} {Q : Nat → Bool} {i : Nat} {s : Sc} (x : Vu n Q i s) (d : Int) {j : Nat} (h1 : 1 ≤ j) (h2 : j ≤ n) (hs : stt s j ≤ 1) (hne : j ≠ i) (hl : s.line.length ≤ 6) :
    (SO.ask s d).1.line.length ≤ 6 ∧ pot (SO.ask s d).1.line j ≤ 13 ∧ (((SO.ask s d).1.pn = j ∧ (SO.ask s d).1.pa = false) ∨ (pot (SO.ask s d).1.line j ≤ pot s.line j ∧ ((rnd s).tmod 4 ≠ 0 → pot (SO.ask s d).1.line j < pot s.line j))) := by
  have key : (SO.ask s d).1.line.length ≤ 6 ∧ (((SO.ask s d).1.pn = j ∧ (SO.ask s d).1.pa = false) ∨ (pot (SO.ask s d).1.line j ≤ pot s.line j ∧ ((rnd s).tmod 4 ≠ 0 → pot (SO.ask s d).1.line j < pot s.line j))) := by
    unfold SO.ask
    split
    · rename_i k hk
      have e := tellS_line [ping k (s.seq + 1)] (ask1 (SO.remind (ask0 s) k) k)
      simp only
      rw [e.1]
      refine ⟨hl, Or.inr ⟨Nat.le_refl _, fun hr => ?_⟩⟩
      exfalso
      unfold SO.sought at hk
      have hr' : (rnd (ask0 s)).tmod 4 ≠ 0 := hr
      rw [if_pos hr'] at hk
      cases hk
    · split
      · rename_i k s' hx
        have e := tellS_line [ping k (s.seq + 1)] (ask1 s' k)
        simp only
        rw [e.1, e.2.1, e.2.2]
        refine ⟨(nextL_len hx hl : s'.line.length ≤ 6), ?_⟩
        rcases nextL_pot hx (j := j) (x.isP_of h1 h2 hs) (x.oth_of h1 h2 hs hne) with h | h
        · cases h
          exact Or.inl ⟨rfl, rfl⟩
        · exact Or.inr ⟨Nat.le_of_lt h, fun _ => h⟩
      · rename_i s' hx
        simp only
        refine ⟨nextL_len hx hl, ?_⟩
        rcases nextL_pot hx (j := j) (x.isP_of h1 h2 hs) (x.oth_of h1 h2 hs hne) with h | h
        · cases h
        · exact Or.inr ⟨Nat.le_of_lt h, fun _ => h⟩
  exact ⟨key.1, pot_le key.1, key.2⟩
/-- a tick that asks -/
theorem Vu.tick_ask {n : Nat} {Q : Nat → Bool} {i : Nat} {s : Sc} (x : Vu n Q i s) (hd : Dbt Q s) (d : Int) {j : Nat} (h1 : 1 ≤ j) (h2 : j ≤ n) (hs : stt s j ≤ 1) (hne : j ≠ i) (hl : s.line.length ≤ 6) (ht : s.now.tmod 4 = 0) :
    (SO.tick s d).1.line.length ≤ 6 ∧ (((SO.tick s d).1.pn = j ∧ (SO.tick s d).1.pa = false) ∨ (pot (SO.tick s d).1.line j ≤ pot s.line j ∧ ((s.now.tdiv 4 + 1).tmod 4 ≠ 0 → pot (SO.tick s d).1.line j < pot s.line j))) := by
  have y := (x.tick0.mid hd d).1
  have hv := y.hv_over
  have e1 : (SO.tick0 s).now - 1 = s.now := by show s.now + 1 - 1 = s.now; omega
  have e : (SO.mid (SO.tick0 s) d).1 = (SO.ask (SO.tick0 s) d).1 := by
    unfold SO.mid
    rw [e1, ht, if_pos rfl]
  have er : rnd (SO.tick0 s) = s.now.tdiv 4 + 1 := by unfold rnd; rw [e1]
  obtain ⟨a, _, c⟩ := x.tick0.ask_pot d h1 h2 (show stt (SO.tick0 s) j ≤ 1 from hs) hne (show (SO.tick0 s).line.length ≤ 6 from hl)
  rw [x.tick_eq, over_pa, hv.line, hv.pn, e]
  rw [er] at c
  exact ⟨a, c⟩
/-- a tick that doesn't ask -/
theorem Vu.tick_rest {n : Nat} {Q : Nat → Bool} {i : Nat} {s : Sc} (x : Vu n Q i s) (hd : Dbt Q s) (d : Int) (ht : s.now.tmod 4 ≠ 0) :
    (SO.tick s d).1.line = s.line ∧ (SO.tick s d).1.pn = s.pn ∧ (SO.tick s d).1.pa = s.pa := by
  have y := (x.tick0.mid hd d).1
  have hv := y.hv_over
  have e1 : (SO.tick0 s).now - 1 = s.now := by show s.now + 1 - 1 = s.now; omega
  rw [x.tick_eq, over_pa, hv.line, hv.pn]
  unfold SO.mid
  rw [e1, if_neg ht]
  split
  · unfold askH
    split
    · have := tellS_line ((helpers (SO.tick0 s)).map (fun h => askF h (SO.tick0 s).ps (SO.tick0 s).pn)) { SO.tick0 s with ph := helpers (SO.tick0 s) }
      exact this
    · exact ⟨rfl, rfl, rfl⟩
  · split
    · show (SO.doubt (SO.tick0 s)).line = _ ∧ (SO.doubt (SO.tick0 s)).pn = _ ∧ (SO.doubt (SO.tick0 s)).pa = _
      unfold SO.doubt
      split
      · unfold SO.turn SO.learn
        split <;> exact ⟨rfl, rfl, rfl⟩
      · exact ⟨rfl, rfl, rfl⟩
    · exact ⟨rfl, rfl, rfl⟩
end Go.Proofs.Ytebmgajijjhinaa.SO

/- Who is silent is gone in time: on lists. -/
namespace Go.Proofs.Ytebmgajijjhinaa.SO
set_option linter.unusedVariables false
set_option linter.unusedSimpArgs false

theorem ask_line (s : Sc) (d : Int) (hl : s.line.length ≤ 6) : (ask s d).1.line.length ≤ 6 := by
  unfold ask
  split
  · rename_i k hk
    have e := tellS_line [ping k (s.seq + 1)] (ask1 (remind (ask0 s) k) k)
    simp only
    rw [e.1]
    exact hl
  · split
    · rename_i k s' hx
      have e := tellS_line [ping k (s.seq + 1)] (ask1 s' k)
      simp only
      rw [e.1]
      exact (nextL_len hx hl : s'.line.length ≤ 6)
    · rename_i s' hx
      exact (nextL_len hx hl : s'.line.length ≤ 6)
/-- the line stays short -/
theorem Vu.tick_line {n : Nat} {Q : Nat → Bool} {i : Nat} {s : Sc} (x : Vu n Q i s) (hd : Dbt Q s) (d : Int) (hl : s.line.length ≤ 6) : (SO.tick s d).1.line.length ≤ 6 := by
  by_cases ht : s.now.tmod 4 = 0
  · have y := (x.tick0.mid hd d).1
    have hv := y.hv_over
    have e1 : (SO.tick0 s).now - 1 = s.now := by show s.now + 1 - 1 = s.now; omega
    have e : (SO.mid (SO.tick0 s) d).1 = (SO.ask (SO.tick0 s) d).1 := by
      unfold SO.mid
      rw [e1, ht, if_pos rfl]
    rw [x.tick_eq, hv.line, e]
    exact ask_line _ d hl
  · rw [(x.tick_rest hd d ht).1]; exact hl
/-- a camp between rounds, after r ticks -/
structure CJ (n : Nat) (Q : Nat → Bool) (r : Nat) (ss : Nat → Sc) : Prop where
  ci : CI n Q ss
  nw : ∀ i, 1 ≤ i → i ≤ n → Q i = false → (ss i).now = r ∧ (ss i).line.length ≤ 6
/-- 4 times what is left of rounds in which others are asked, and of those in which nobody in line is -/
def gA (a : Nat) : Nat := if a % 4 = 1 then 0 else if a % 4 = 2 then 1 else if a % 4 = 3 then 2 else 3
/-- within b ticks j is gone -/
def Fin (r b : Nat) (s : Sc) (j : Nat) : Prop :=
  stt s j = 2 ∨ (stt s j = 1 ∧ s.sn j ≤ r ∧ (r : Int) < s.sn j + 8 ∧ s.sn j + 8 ≤ (r : Int) + b) ∨
  (stt s j = 0 ∧ s.pn = j ∧ s.pa = false ∧ r % 4 ≠ 0 ∧ 4 - r % 4 + 8 ≤ b) ∨
  (stt s j = 0 ∧ 3 * ((4 - r % 4) % 4) + 4 * (4 * pot s.line j + gA ((r + 3) / 4 + 1)) + 20 ≤ 3 * b)
theorem Fin.done {r : Nat} {s : Sc} {j : Nat} (h : Fin r 0 s j) : stt s j = 2 := by
  have := pot_pos s.line j
  rcases h with h | ⟨h1, h2, h3, h4⟩ | ⟨h1, h2, h3, h4, h5⟩ | ⟨h1, h2⟩
  · exact h
  · omega
  · omega
  · omega
theorem fin_start {n : Nat} {Q : Nat → Bool} {i r : Nat} {s : Sc} (x : Vu n Q i s) {j : Nat} (h1 : 1 ≤ j) (h2 : j ≤ n) (h0 : stt s j = 0) (hl : s.line.length ≤ 6) {b : Nat} (hb : 90 ≤ b) : Fin r b s j := by
  have := pot_le (j := (j : Int)) hl
  refine Or.inr (Or.inr (Or.inr ⟨h0, ?_⟩))
  have g : gA ((r + 3) / 4 + 1) ≤ 3 := by unfold gA; split <;> (try split) <;> (try split) <;> omega
  omega
/-- a round -/
theorem Fin.step {n : Nat} {Q : Nat → Bool} {i r b : Nat} {s s' : Sc} (x : Vu n Q i s) (hd : Dbt Q s) (y : Vu n Q i s') (hnow : s.now = r) (hl : s.line.length ≤ 6) (d : Int) (hv : Hv (SO.tick s d).1 s')
    {j : Nat} (h1 : 1 ≤ j) (h2 : j ≤ n) (hq : Q j = true) (hne : j ≠ i) (hpa : (SO.tick s d).1.pn = j → s'.pa = (SO.tick s d).1.pa) (h : Fin r (b + 1) s j) : Fin (r + 1) b s' j := by
  have t := (x.tick hd d).1
  have ht := x.hw_tick hd d
  have hw := ht.trans hv.hw
  have e0 : (SO.tick0 s).now = s.now + 1 := rfl
  have e1 : stt (SO.tick0 s) j = stt s j := rfl
  have e2 : (SO.tick0 s).sn j = s.sn j := rfl
  have a := hw.stt x.tick0 y h1 h2
  rw [e0, e1, e2, hnow] at a
  have g := (x.stt_of h1 h2).2
  have g' := (y.stt_of h1 h2).2
  have hvle := hv.hw.le t y h1 h2
  -- behind a rise
  have rise : stt s j < stt s' j → s'.sn j = (r : Int) + 1 → 8 ≤ b → Fin (r + 1) b s' j := fun k1 k2 k3 => by
    by_cases h3 : stt s' j = 2
    · exact Or.inl h3
    · refine Or.inr (Or.inl ⟨by omega, ?_, ?_, ?_⟩) <;> rw [k2] <;> omega
  have hm4 : s.now.tmod 4 = (r % 4 : Nat) := by rw [hnow, Int.tmod_eq_emod_of_nonneg (by omega)]; omega
  rcases h with h | ⟨k1, k2, k3, k4⟩ | ⟨k1, k2, k3, k4, k5⟩ | ⟨k1, k2⟩
  · exact Or.inl (by omega)
  · by_cases h8 : (r : Int) + 1 - s.sn j ≥ 8
    · have := x.tick_two hd d h1 h2 (by omega) (fun _ => by rw [hnow]; exact h8)
      exact Or.inl (by omega)
    · rcases a with ⟨a1, a2⟩ | ⟨a1, a2⟩
      · refine Or.inr (Or.inl ⟨by omega, ?_, ?_, ?_⟩) <;> rw [a2] <;> omega
      · exact Or.inl (by omega)
  · by_cases h3 : r % 4 = 3
    · have := x.tick_doubt hd d h1 h2 hq k2 k3 (by rw [hm4, h3]; rfl)
      rcases a with ⟨a1, a2⟩ | ⟨a1, a2⟩
      · omega
      · exact rise a1 a2 (by omega)
    · rcases a with ⟨a1, a2⟩ | ⟨a1, a2⟩
      · have hr := x.tick_rest hd d (by rw [hm4]; omega)
        refine Or.inr (Or.inr (Or.inl ⟨by omega, ?_, ?_, by omega, by omega⟩))
        · rw [hv.pn, hr.2.1]; exact k2
        · rw [hpa (by rw [hr.2.1]; exact k2), hr.2.2]; exact k3
      · exact rise a1 a2 (by omega)
  · have hp := pot_pos s.line j
    by_cases h0 : r % 4 = 0
    · obtain ⟨c1, c2⟩ := x.tick_ask hd d h1 h2 (by omega) hne hl (by rw [hm4, h0]; rfl)
      rcases a with ⟨a1, a2⟩ | ⟨a1, a2⟩
      · rcases c2 with ⟨d1, d2⟩ | ⟨d1, d2⟩
        · refine Or.inr (Or.inr (Or.inl ⟨by omega, ?_, ?_, by omega, by omega⟩))
          · rw [hv.pn]; exact d1
          · rw [hpa d1]; exact d2
        · refine Or.inr (Or.inr (Or.inr ⟨by omega, ?_⟩))
          rw [hv.line]
          have hdv : (s.now.tdiv 4 + 1).tmod 4 = (((r / 4 + 1) % 4 : Nat) : Int) := by
            rw [hnow, Int.tdiv_eq_ediv_of_nonneg (by omega), Int.tmod_eq_emod_of_nonneg (by omega)]
            omega
          have q1 : (r + 3) / 4 + 1 = r / 4 + 1 := by omega
          have q2 : (r + 1 + 3) / 4 + 1 = (r / 4 + 1) + 1 := by omega
          rw [q1] at k2
          rw [q2]
          generalize r / 4 + 1 = A at *
          generalize pot (SO.tick s d).1.line j = p' at *
          generalize pot s.line j = p at *
          have q3 : p' ≤ p ∧ (A % 4 ≠ 0 → p' < p) := ⟨d1, fun hA => d2 (by rw [hdv]; omega)⟩
          have q4 : 4 * p' + gA (A + 1) + 3 ≤ 4 * p + gA A := by
            by_cases hA : A % 4 = 0
            · have z1 : gA A = 3 := by unfold gA; rw [if_neg (by omega), if_neg (by omega), if_neg (by omega)]
              have z2 : gA (A + 1) = 0 := by unfold gA; rw [if_pos (by omega)]
              omega
            · have z1 := q3.2 hA
              have z2 : gA (A + 1) ≤ gA A + 1 := by
                unfold gA
                split <;> (try split) <;> (try split) <;> (try split) <;> (try split) <;> (try split) <;> omega
              omega
          omega
      · exact rise a1 a2 (by omega)
    · rcases a with ⟨a1, a2⟩ | ⟨a1, a2⟩
      · have hr := x.tick_rest hd d (by rw [hm4]; omega)
        refine Or.inr (Or.inr (Or.inr ⟨by omega, ?_⟩))
        rw [hv.line, hr.1]
        have q1 : (r + 1 + 3) / 4 = (r + 3) / 4 := by omega
        rw [q1]
        omega
      · exact rise a1 a2 (by omega)
/-- a camp's round: all goes well, and time goes on -/
theorem CJ.step {n : Nat} {Q : Nat → Bool} {r : Nat} {ss : Nat → Sc} (h6 : n ≤ 6) (x : CJ n Q r ss) (dr : Nat → Int) :
    ∃ ss', GoodR n Q dr ss ss' ∧ CJ n Q (r + 1) ss' ∧ ∀ i j b, 1 ≤ i → i ≤ n → Q i = false → 1 ≤ j → j ≤ n → Q j = true → Fin r (b + 1) (ss i) j → Fin (r + 1) b (ss' i) j := by
  obtain ⟨ss', g, ci', K, hK⟩ := x.ci.round h6 dr
  refine ⟨ss', g, ⟨ci', fun i i1 i2 hi => ?_⟩, fun i j b i1 i2 hi j1 j2 hj hf => ?_⟩
  · obtain ⟨v, db⟩ := x.ci i i1 i2 hi
    obtain ⟨n1, n2⟩ := x.nw i i1 i2 hi
    have hv := x.ci.one dr hK i1 i2 hi
    have ht := (v.hw_tick db (dr i)).now
    refine ⟨?_, ?_⟩
    · rw [hv.now, ht]
      show (ss i).now + 1 = _
      rw [n1]; omega
    · rw [hv.line]; exact v.tick_line db (dr i) n2
  · obtain ⟨v, db⟩ := x.ci i i1 i2 hi
    obtain ⟨n1, n2⟩ := x.nw i i1 i2 hi
    have hne : j ≠ i := fun e => by rw [e, hi] at hj; cases hj
    exact Fin.step v db (ci' i i1 i2 hi).1 n1 n2 (dr i) (x.ci.one dr hK i1 i2 hi) j1 j2 hj hne (fun hp => x.ci.pa dr hK i1 i2 hi (by rw [hp]; exact hj)) hf
theorem cj_new {n : Nat} (Q : Nat → Bool) (h6 : n ≤ 6) : CJ n Q 0 (fun i => new i n) := ⟨ci_new Q h6, fun i i1 i2 hi => ⟨rfl, Nat.zero_le _⟩⟩
/-- some become silent: from now on they are found -/
theorem CJ.quiet {n r : Nat} {ss : Nat → Sc} (x : CJ n (fun _ => false) r ss) (Q : Nat → Bool) : CJ n Q r ss ∧ ∀ i j, 1 ≤ i → i ≤ n → Q i = false → 1 ≤ j → j ≤ n → Q j = true → Fin r 120 (ss i) j := by
  refine ⟨⟨x.ci.quiet Q, fun i i1 i2 hi => x.nw i i1 i2 rfl⟩, fun i j i1 i2 hi j1 j2 hj => ?_⟩
  obtain ⟨v, _⟩ := x.ci i i1 i2 rfl
  obtain ⟨st, e, _, _, hz⟩ := v.wd j j1 j2
  have h0 : stt (ss i) j = 0 := by
    unfold stt of
    rw [e]; exact hz rfl
  exact fin_start v j1 j2 h0 (x.nw i i1 i2 rfl).2 (by omega)
end Go.Proofs.Ytebmgajijjhinaa.SO

/- What all know in the end: on lists. -/
namespace Go.Proofs.Ytebmgajijjhinaa.SO
set_option linter.unusedVariables false
set_option linter.unusedSimpArgs false

/-- who is known is one of the nodes, with its word -/
theorem Vu.all_mem {n : Nat} {Q : Nat → Bool} {i : Nat} {s : Sc} (x : Vu n Q i s) {m : K.Me} (h : m ∈ K.all s.f) : ∃ j : Nat, 1 ≤ j ∧ j ≤ n ∧ m = ((j : Int), 0, stt s j) ∧ (Q j = false → stt s j = 0) := by
  unfold K.all K.allN at h
  obtain ⟨k, hk, e⟩ := List.mem_filterMap.1 h
  have hk6 : k < 6 := List.mem_range.1 hk
  by_cases hkn : k + 1 ≤ n
  · obtain ⟨a, _, _⟩ := x.stt_of (j := k + 1) (by omega) hkn
    obtain ⟨st, b, _, _, hz⟩ := x.wd (k + 1) (by omega) hkn
    have e' : s.f ((k + 1 : Nat) : Int) = some m := by rw [← e]; rfl
    rw [a] at e'
    rw [a] at b
    refine ⟨k + 1, by omega, hkn, (Option.some.inj e').symm, fun hq => ?_⟩
    have := hz hq
    have g : stt s (k + 1) = st := by
      have := Option.some.inj b
      exact congrArg (fun q : K.Me => q.2.2) this
    omega
  · have := x.dm ((k : Int) + 1) (by omega)
    rw [this] at e; cases e
/-- what all know in the end: who is silent is gone, nobody else -/
theorem CJ.told {n : Nat} {Q : Nat → Bool} {r : Nat} {ss : Nat → Sc} (x : CJ n Q r ss) (hf : ∀ i j, 1 ≤ i → i ≤ n → Q i = false → 1 ≤ j → j ≤ n → Q j = true → Fin r 0 (ss i) j) {i : Nat} (i1 : 1 ≤ i) (i2 : i ≤ n) (hi : Q i = false) {m : K.Me} (h : m ∈ K.all (ss i).f) :
    ∃ j : Nat, 1 ≤ j ∧ j ≤ n ∧ m = ((j : Int), 0, if Q j = true then 2 else 0) := by
  obtain ⟨v, _⟩ := x.ci i i1 i2 hi
  obtain ⟨j, j1, j2, e, hz⟩ := v.all_mem h
  refine ⟨j, j1, j2, ?_⟩
  rw [e]
  cases hq : Q j with
  | true => rw [(hf i j i1 i2 hi j1 j2 hq).done]; rfl
  | false => rw [hz hq]; rfl
theorem all_len6 (f : K.Vw) : (K.all f).length ≤ 6 := by
  unfold K.all K.allN
  refine Nat.le_trans (List.length_filterMap_le _ _) ?_
  rw [List.length_range]
  exact Nat.le_refl _
/-- who is silent, of the first k -/
def Qk (fl : List Bool) (k : Nat) : Nat → Bool := fun j => decide (1 ≤ j ∧ j ≤ k) && fl.getD (j - 1) false
theorem qk_zero (fl : List Bool) : Qk fl 0 = fun _ => false := by
  funext j
  unfold Qk
  have : ¬ (1 ≤ j ∧ j ≤ 0) := by omega
  rw [decide_eq_false this]; rfl
theorem qk_succ (fl : List Bool) (k : Nat) : Qk fl (k + 1) = fun j => if j = k + 1 then fl.getD k false else Qk fl k j := by
  funext j
  unfold Qk
  by_cases e : j = k + 1
  · subst e
    have : (1 ≤ k + 1 ∧ k + 1 ≤ k + 1) := by omega
    rw [decide_eq_true this, if_pos rfl]; rfl
  · rw [if_neg e]
    have : (1 ≤ j ∧ j ≤ k + 1) ↔ (1 ≤ j ∧ j ≤ k) := by omega
    rw [decide_eq_decide.2 this]
end Go.Proofs.Ytebmgajijjhinaa.SO

/- Words that rise again; what is told is what is known: on lists. -/
namespace Go.Proofs.Ytebmgajijjhinaa.SO
set_option linter.unusedVariables false
set_option linter.unusedSimpArgs false

/-- what a scout tells is what it knows -/
def Sy (s : Sc) : Prop := HU.Ok s.F 5 ∧ ∀ k, 0 < (s.F k).2 → s.f k = some (s.F k).1
theorem Sy.like {s s' : Sc} (h : Sy s) (h1 : s'.f = s.f) (h2 : s'.F = s.F) : Sy s' := by
  unfold Sy at *
  rw [h1, h2]; exact h
theorem Sy.learn {s : Sc} (h : Sy s) (m : K.Me) : Sy (learn s m) := by
  unfold SO.learn
  split
  · rename_i hn
    have hg := K.news_good hn
    have hs : K.stp s.f m = fun k => if k = m.1 then some m else s.f k := by unfold K.stp; rw [if_pos hn]
    have hp : HU.put 5 s.F m = HU.set1 s.F 5 m := by unfold HU.put; rw [if_pos ((K.good_iff m).2 hg)]
    refine ⟨HU.ok_put h.1 m (by omega), fun k hk => ?_⟩
    have hk' : 0 < (HU.put 5 s.F m k).2 := hk
    show K.stp s.f m k = some (HU.put 5 s.F m k).1
    rw [hs]
    rw [hp] at hk' ⊢
    unfold HU.set1 at hk' ⊢
    by_cases e : k = m.1
    · simp only [if_pos e]
    · simp only [if_neg e] at hk' ⊢
      exact h.2 k hk'
  · exact h
theorem Sy.remind {s : Sc} (h : Sy s) {k : Int} {o : K.Me} (ho : s.f k = some o) (hk : o.1 = k) : Sy (remind s k) := by
  have hof : of s k = o := by unfold of; rw [ho]; rfl
  refine ⟨HU.ok_put h.1 _ (by omega), fun q hq => ?_⟩
  have hq' : 0 < (HU.put 5 s.F (of s k) q).2 := hq
  show s.f q = some (HU.put 5 s.F (of s k) q).1
  rw [hof] at hq' ⊢
  unfold HU.put at hq' ⊢
  split at hq'
  · rename_i hg
    rw [if_pos hg]
    unfold HU.set1 at hq' ⊢
    by_cases e : q = o.1
    · simp only [if_pos e]
      rw [e, hk]; exact ho
    · simp only [if_neg e] at hq' ⊢
      exact h.2 q hq'
  · rename_i hg
    rw [if_neg hg]
    exact h.2 q hq'
theorem ok_tk {F : HU.St} (h : HU.Ok F 5) (c : Nat) : HU.Ok (HU.took F c) 5 := by
  refine ⟨fun i => ?_, fun i => ?_, fun i hi => ?_⟩
  · unfold HU.took
    split
    · rename_i hin
      have := (HU.inT_pos h hin).1
      show 0 ≤ (F i).2 - 1
      omega
    · exact h.lo i
  · exact Int.le_trans (took_w F c i).2 (h.hi i)
  · obtain ⟨a, b⟩ := took_w F c i
    rw [a]
    exact h.at' i (by omega)
theorem Sy.tell1 {s : Sc} (h : Sy s) (y : Fr) : Sy (tell1 s y).1 := by
  refine ⟨ok_tk h.1 _, fun k hk => ?_⟩
  obtain ⟨a, b⟩ := took_w s.F (HU.cnt s.F 6) k
  have hk' : 0 < (HU.took s.F (HU.cnt s.F 6) k).2 := hk
  show s.f k = some (HU.took s.F (HU.cnt s.F 6) k).1
  rw [a]
  exact h.2 k (by omega)
theorem Sy.tellS : ∀ (l : List Fr) {s : Sc}, Sy s → Sy (tellS s l)
  | [], s, h => h
  | y :: r, s, h => Sy.tellS r (h.tell1 y)
/-- a word about k: at first, or risen -/
def WW (P R : Nat → Bool) (k : Nat) (m : K.Me) : Prop := (∃ st : Int, m = ((k : Int), 0, st) ∧ 0 ≤ st ∧ st ≤ 2 ∧ (P k = false → st = 0)) ∨ (R k = true ∧ m = ((k : Int), 1, 0))
theorem WW.fst {P R : Nat → Bool} {k : Nat} {m : K.Me} (h : WW P R k m) : m.1 = k := by
  rcases h with ⟨st, rfl, _⟩ | ⟨_, rfl⟩ <;> rfl
theorem WW.good {P R : Nat → Bool} {k : Nat} {m : K.Me} (h : WW P R k m) (h1 : 1 ≤ k) (h6 : k ≤ 6) : K.Good m := by
  rcases h with ⟨st, rfl, a, b, _⟩ | ⟨_, rfl⟩ <;> unfold K.Good <;> refine ⟨?_, ?_, ?_, ?_, ?_, ?_⟩ <;> dsimp only <;> omega
theorem WW.mono {P R R' : Nat → Bool} {k : Nat} {m : K.Me} (h : WW P R k m) (hR : R k = true → R' k = true) : WW P R' k m := by
  rcases h with h | ⟨a, b⟩
  · exact Or.inl h
  · exact Or.inr ⟨hR a, b⟩
structure Vg (n : Nat) (P R : Nat → Bool) (i : Nat) (s : Sc) : Prop where
  n6 : n ≤ 6
  i1 : 1 ≤ i
  i2 : i ≤ n
  hme : s.me = i
  hn : s.n = n
  dm : ∀ k : Int, ¬ (1 ≤ k ∧ k ≤ n) → s.f k = none
  wd : ∀ k : Nat, 1 ≤ k → k ≤ n → ∃ m, s.f k = some m ∧ WW P R k m
  own : s.f (i : Int) = some ((i : Int), if R i = true then 1 else 0, 0)
  rp : ∀ k, R k = true → P k = true
  sy : Sy s
  ln : ∀ k ∈ s.line, k ∈ oth0 i n
  pn : 0 ≤ s.pn ∧ s.pn ≤ n ∧ s.pn ≠ i
  ea : ∀ e ∈ s.er, 1 ≤ e.asker ∧ e.asker ≤ n
  el : s.er.length ≤ 16
theorem Vg.like {n : Nat} {P R : Nat → Bool} {i : Nat} {s s' : Sc} (x : Vg n P R i s) (h1 : s'.me = s.me) (h2 : s'.n = s.n) (h3 : s'.f = s.f) (h4 : Sy s') (h5 : ∀ k ∈ s'.line, k ∈ oth0 i n) (h6 : 0 ≤ s'.pn ∧ s'.pn ≤ n ∧ s'.pn ≠ i) (h7 : ∀ e ∈ s'.er, 1 ≤ e.asker ∧ e.asker ≤ n) (h8 : s'.er.length ≤ 16) : Vg n P R i s' :=
  ⟨x.n6, x.i1, x.i2, h1.trans x.hme, h2.trans x.hn, by rw [h3]; exact x.dm, by rw [h3]; exact x.wd, by rw [h3]; exact x.own, x.rp, h4, h5, h6, h7, h8⟩
theorem Vg.rise {n : Nat} {P R R' : Nat → Bool} {i : Nat} {s : Sc} (x : Vg n P R i s) (hR : ∀ k, R k = true → R' k = true) (hi : R' i = R i) (hp : ∀ k, R' k = true → P k = true) : Vg n P R' i s :=
  ⟨x.n6, x.i1, x.i2, x.hme, x.hn, x.dm, fun k a b => by
    obtain ⟨m, e, h⟩ := x.wd k a b
    exact ⟨m, e, h.mono (hR k)⟩, by rw [hi]; exact x.own, hp, x.sy, x.ln, x.pn, x.ea, x.el⟩
theorem Vg.of {n : Nat} {P R : Nat → Bool} {i : Nat} {s : Sc} (x : Vg n P R i s) {k : Nat} (h1 : 1 ≤ k) (h2 : k ≤ n) : ∃ m, of s k = m ∧ s.f k = some m ∧ WW P R k m := by
  obtain ⟨m, e, h⟩ := x.wd k h1 h2
  exact ⟨m, by unfold SO.of; rw [e]; rfl, e, h⟩
theorem Vg.me {n : Nat} {P R : Nat → Bool} {i : Nat} {s : Sc} (x : Vg n P R i s) : SO.of s s.me = ((i : Int), if R i = true then 1 else 0, 0) := by
  unfold SO.of; rw [x.hme, x.own]; rfl
theorem Vg.left {n : Nat} {P R : Nat → Bool} {i : Nat} {s : Sc} (x : Vg n P R i s) : left s = false := by
  unfold SO.left; rw [x.me]; rfl
theorem Vg.tell1 {n : Nat} {P R : Nat → Bool} {i : Nat} {s : Sc} (x : Vg n P R i s) (y : Fr) : Vg n P R i (tell1 s y).1 := x.like rfl rfl rfl (x.sy.tell1 y) x.ln x.pn x.ea x.el
theorem Vg.tellS {n : Nat} {P R : Nat → Bool} {i : Nat} : ∀ (l : List Fr) {s : Sc}, Vg n P R i s → Vg n P R i (tellS s l)
  | [], s, x => x
  | y :: r, s, x => Vg.tellS r (x.tell1 y)
theorem Vg.told {n : Nat} {P R : Nat → Bool} {i : Nat} {s : Sc} (x : Vg n P R i s) {c : Nat} {m : K.Me} (h : m ∈ HU.told s.F c) : ∃ k : Nat, 1 ≤ k ∧ k ≤ n ∧ WW P R k m := by
  obtain ⟨k, hk, rfl⟩ := told_mem h
  have e := x.sy.2 k hk
  by_cases hr : 1 ≤ k ∧ k ≤ n
  · obtain ⟨m, e2, h2⟩ := x.wd k.toNat (by omega) (by omega)
    have ek : ((k.toNat : Nat) : Int) = k := by omega
    rw [ek, e] at e2
    have e3 := Option.some.inj e2
    rw [← e3] at h2
    exact ⟨k.toNat, by omega, by omega, h2⟩
  · rw [x.dm k hr] at e; cases e
/-- a frame that is under way -/
structure FG (n : Nat) (P R : Nat → Bool) (i : Nat) (f : Fr) : Prop where
  frm : f.frm = i
  d1 : 1 ≤ f.dst
  d2 : f.dst ≤ n
  rw : ∀ m ∈ f.rum, ∃ k : Nat, 1 ≤ k ∧ k ≤ n ∧ WW P R k m
  r6 : f.rum.length ≤ 6
theorem FG.rise {n : Nat} {P R R' : Nat → Bool} {i : Nat} {f : Fr} (x : FG n P R i f) (hR : ∀ k, R k = true → R' k = true) : FG n P R' i f :=
  ⟨x.frm, x.d1, x.d2, fun m hm => by
    obtain ⟨k, a, b, c⟩ := x.rw m hm
    exact ⟨k, a, b, c.mono (hR k)⟩, x.r6⟩
theorem Vg.tellL {n : Nat} {P R : Nat → Bool} {i : Nat} : ∀ (l : List Fr) {s : Sc}, Vg n P R i s → (∀ y ∈ l, 1 ≤ y.dst ∧ y.dst ≤ n) → ∀ f ∈ tellL s l, FG n P R i f
  | [], s, x, h, f, hf => by cases hf
  | y :: r, s, x, h, f, hf => by
    rcases List.mem_cons.1 hf with rfl | hf
    · have hy := h y List.mem_cons_self
      exact ⟨x.hme, hy.1, hy.2, fun m hm => x.told hm, told_len _ _⟩
    · exact Vg.tellL r (x.tell1 y) (fun y hy => h y (List.mem_cons_of_mem _ hy)) f hf
theorem Vg.remind {n : Nat} {P R : Nat → Bool} {i : Nat} {s : Sc} (x : Vg n P R i s) {k : Nat} (h1 : 1 ≤ k) (h2 : k ≤ n) : Vg n P R i (remind s k) := by
  obtain ⟨m, e, h⟩ := x.wd k h1 h2
  exact x.like rfl rfl rfl (x.sy.remind e h.fst) x.ln x.pn x.ea x.el
theorem Vg.learn {n : Nat} {P R : Nat → Bool} {i : Nat} {s : Sc} (x : Vg n P R i s) {k : Nat} {m : K.Me} (h1 : 1 ≤ k) (h2 : k ≤ n) (hne : k ≠ i) (hm : WW P R k m) : Vg n P R i (learn s m) := by
  have hsy := x.sy.learn m
  unfold SO.learn at hsy ⊢
  split
  · rename_i hn
    rw [if_pos hn] at hsy
    have hf := hm.fst
    have hs : K.stp s.f m = fun q => if q = (k : Int) then some m else s.f q := by unfold K.stp; rw [if_pos hn, hf]
    refine ⟨x.n6, x.i1, x.i2, x.hme, x.hn, fun q hq => ?_, fun q q1 q2 => ?_, ?_, x.rp, hsy, x.ln, x.pn, x.ea, x.el⟩
    · show K.stp s.f m q = none
      rw [hs]
      show (if q = (k : Int) then _ else _) = none
      rw [if_neg (by omega)]
      exact x.dm q hq
    · show ∃ m', K.stp s.f m q = _ ∧ _
      rw [hs]
      by_cases e : q = k
      · subst e
        exact ⟨m, if_pos rfl, hm⟩
      · obtain ⟨m', g1, g2⟩ := x.wd q q1 q2
        refine ⟨m', ?_, g2⟩
        show (if (q : Int) = (k : Int) then _ else _) = _
        rw [if_neg (by omega)]; exact g1
    · show K.stp s.f m i = _
      rw [hs]
      show (if (i : Int) = (k : Int) then _ else _) = _
      rw [if_neg (by omega)]
      exact x.own
  · exact x
/-- a node rises -/
def upR (R : Nat → Bool) (i : Nat) : Nat → Bool := fun k => if k = i then true else R k
theorem Vg.speak {n : Nat} {P R : Nat → Bool} {i : Nat} {s : Sc} (x : Vg n P R i s) (hP : P i = true) (hR : R i = false) : Vg n P (upR R i) i (SO.learn s ((i : Int), 1, 0)) ∧ (SO.learn s ((i : Int), 1, 0)).f i = some ((i : Int), 1, 0) ∧ 0 < ((SO.learn s ((i : Int), 1, 0)).F i).2 := by
  have hn6 := x.n6
  have hi1 := x.i1
  have hi2 := x.i2
  have hown := x.own
  rw [hR] at hown
  have hn : K.news s.f ((i : Int), 1, 0) = true := by
    unfold K.news
    show (K.good ((i : Int), 1, 0) && (match s.f (i : Int) with | none => true | some o => K.above ((i : Int), 1, 0) o)) = true
    rw [hown]
    show (K.good ((i : Int), 1, 0) && K.above ((i : Int), 1, 0) ((i : Int), 0, 0)) = true
    rw [K.above_eq]
    unfold K.good K.hi
    simp
    omega
  have hsy := x.sy.learn ((i : Int), 1, 0)
  have hs : K.stp s.f ((i : Int), 1, 0) = fun q => if q = (i : Int) then some ((i : Int), 1, 0) else s.f q := by unfold K.stp; rw [if_pos hn]
  unfold SO.learn at hsy ⊢
  rw [if_pos hn] at hsy ⊢
  refine ⟨⟨x.n6, x.i1, x.i2, x.hme, x.hn, fun q hq => ?_, fun q q1 q2 => ?_, ?_, fun q hq => ?_, hsy, x.ln, x.pn, x.ea, x.el⟩, ?_, ?_⟩
  · show K.stp s.f _ q = none
    rw [hs]
    show (if q = (i : Int) then _ else _) = none
    rw [if_neg (by omega)]
    exact x.dm q hq
  · show ∃ m', K.stp s.f _ q = _ ∧ _
    rw [hs]
    by_cases e : q = i
    · subst e
      exact ⟨_, if_pos rfl, Or.inr ⟨by unfold upR; exact if_pos rfl, rfl⟩⟩
    · obtain ⟨m', g1, g2⟩ := x.wd q q1 q2
      refine ⟨m', ?_, g2.mono (fun h => by unfold upR; rw [if_neg e]; exact h)⟩
      show (if (q : Int) = (i : Int) then _ else _) = _
      rw [if_neg (by omega)]; exact g1
  · show K.stp s.f _ i = _
    rw [hs]
    have : upR R i i = true := by unfold upR; exact if_pos rfl
    rw [this]
    exact if_pos rfl
  · unfold upR at hq
    by_cases e : q = i
    · rw [e]; exact hP
    · rw [if_neg e] at hq; exact x.rp q hq
  · show K.stp s.f _ i = _
    rw [hs]; exact if_pos rfl
  · show 0 < (HU.put 5 s.F ((i : Int), 1, 0) i).2
    have hg : K.good ((i : Int), 1, 0) = true := by unfold K.good; simp; omega
    unfold HU.put
    rw [if_pos hg]
    unfold HU.set1
    rw [if_pos rfl]
    show (0 : Int) < 5
    omega
end Go.Proofs.Ytebmgajijjhinaa.SO

/- Words that rise again: a frame's words come: on lists. -/
namespace Go.Proofs.Ytebmgajijjhinaa.SO
set_option linter.unusedVariables false
set_option linter.unusedSimpArgs false

/-- R' is R but for i, and no less -/
structure Up (R R' : Nat → Bool) (i : Nat) : Prop where
  le : ∀ q, R q = true → R' q = true
  eq : ∀ q, q ≠ i → R' q = R q
theorem Up.refl (R : Nat → Bool) (i : Nat) : Up R R i := ⟨fun _ h => h, fun _ _ => rfl⟩
theorem Up.trans {A B C : Nat → Bool} {i : Nat} (x : Up A B i) (y : Up B C i) : Up A C i := ⟨fun q h => y.le q (x.le q h), fun q h => (y.eq q h).trans (x.eq q h)⟩
theorem up_upR (R : Nat → Bool) (i : Nat) : Up R (upR R i) i := ⟨fun q h => by unfold upR; split <;> first | rfl | exact h, fun q h => by unfold upR; rw [if_neg h]⟩
/-- its own word is to be told -/
def Op (i : Nat) (s : Sc) : Prop := 0 < (s.F (i : Int)).2
/-- it knows that k has risen -/
def Rz (s : Sc) (k : Nat) : Prop := s.f (k : Int) = some ((k : Int), 1, 0)
theorem put_op {F : HU.St} {m : K.Me} {k : Int} (h : 0 < (F k).2) : 0 < (HU.put 5 F m k).2 := by
  unfold HU.put
  split
  · unfold HU.set1
    split
    · show (0 : Int) < 5; omega
    · exact h
  · exact h
theorem op_learn {i : Nat} {s : Sc} (h : Op i s) (m : K.Me) : Op i (learn s m) := by
  unfold learn
  split
  · exact put_op h
  · exact h
theorem op_remind {i : Nat} {s : Sc} (h : Op i s) (k : Int) : Op i (remind s k) := put_op h
theorem op_rum {i : Nat} {s : Sc} (h : Op i s) (m : K.Me) : Op i (rum s m) := by
  have h1 : Op i (rum1 s m) := by
    unfold rum1; split
    · exact op_learn h m
    · exact h
  unfold rum
  split
  · exact h1
  · have h2 : Op i (rum2 (rum1 s m) m) := by
      unfold rum2; split
      · exact op_remind h1 _
      · exact h1
    unfold rum3; split
    · exact op_learn h2 _
    · exact h2
theorem Vg.other {n : Nat} {P R : Nat → Bool} {i : Nat} {s : Sc} (x : Vg n P R i s) {k : Int} : other s k = true ↔ 1 ≤ k ∧ k ≤ n ∧ k ≠ i := by
  unfold SO.other
  rw [x.hn, x.hme]
  simp
  omega
/-- nothing stands above a risen word -/
theorem WW.top {P R : Nat → Bool} {k : Nat} {m : K.Me} (h : WW P R k m) : K.above m ((k : Int), 1, 0) = false := by
  rw [K.above_eq]
  have : K.hi m ((k : Int), 1, 0) = false := by
    unfold K.hi
    rw [decide_eq_false_iff_not]
    rcases h with ⟨st, rfl, a, b, _⟩ | ⟨_, rfl⟩ <;> simp
  rw [this]; simp
theorem rz_learn {P R : Nat → Bool} {s : Sc} {k q : Nat} {m : K.Me} (h : Rz s k) (hm : WW P R q m) : Rz (learn s m) k := by
  unfold learn
  split
  · rename_i hn
    have hf := hm.fst
    by_cases e : k = q
    · subst e
      exfalso
      unfold K.news at hn
      rw [hf, h] at hn
      have hn2 : (K.good m && K.above m ((k : Int), 1, 0)) = true := hn
      rw [hm.top] at hn2
      simp at hn2
    · have hs : K.stp s.f m = fun p => if p = (q : Int) then some m else s.f p := by unfold K.stp; rw [if_pos hn, hf]
      show K.stp s.f m k = _
      rw [hs]
      show (if (k : Int) = (q : Int) then _ else _) = _
      rw [if_neg (by omega)]
      exact h
  · exact h
/-- a word that has risen is taken -/
theorem Vg.learn_rz {n : Nat} {P R : Nat → Bool} {i : Nat} {s : Sc} (x : Vg n P R i s) {k : Nat} (h1 : 1 ≤ k) (h2 : k ≤ n) : Rz (SO.learn s ((k : Int), 1, 0)) k := by
  have hn6 := x.n6
  obtain ⟨m, e, hw⟩ := x.wd k h1 h2
  unfold SO.learn
  by_cases hn : K.news s.f ((k : Int), 1, 0) = true
  · rw [if_pos hn]
    have hs : K.stp s.f ((k : Int), 1, 0) = fun p => if p = (k : Int) then some ((k : Int), 1, 0) else s.f p := by unfold K.stp; rw [if_pos hn]
    show K.stp s.f _ k = _
    rw [hs]; exact if_pos rfl
  · rw [if_neg hn]
    rcases hw with ⟨st, rfl, a, b, _⟩ | ⟨_, rfl⟩
    · exfalso
      apply hn
      unfold K.news
      show (K.good ((k : Int), 1, 0) && (match s.f (k : Int) with | none => true | some o => K.above ((k : Int), 1, 0) o)) = true
      rw [e]
      show (K.good ((k : Int), 1, 0) && K.above ((k : Int), 1, 0) ((k : Int), 0, st)) = true
      rw [K.above_eq]
      unfold K.good K.hi
      simp
      omega
    · exact e
theorem Vg.rum_far {n : Nat} {P R : Nat → Bool} {i : Nat} {s : Sc} (x : Vg n P R i s) {k : Nat} {m : K.Me} (h1 : 1 ≤ k) (h2 : k ≤ n) (hne : k ≠ i) (hm : WW P R k m) : SO.rum s m = SO.learn s m := by
  have hf := hm.fst
  have e : ¬ (m.1 == s.me) = true := by rw [hf, x.hme]; simp; omega
  have ho : SO.other s m.1 = true := x.other.2 (by rw [hf]; omega)
  unfold SO.rum
  rw [if_pos (by simp at e ⊢; exact Or.inl e)]
  unfold SO.rum1
  rw [if_pos ho]
theorem Vg.rum {n : Nat} {P R : Nat → Bool} {i : Nat} {s : Sc} (x : Vg n P R i s) {k : Nat} {m : K.Me} (h1 : 1 ≤ k) (h2 : k ≤ n) (hm : WW P R k m) :
    ∃ R', Up R R' i ∧ Vg n P R' i (SO.rum s m) ∧ (k = i → (∃ st : Int, m = ((i : Int), 0, st) ∧ 1 ≤ st) → R' i = true ∧ Op i (SO.rum s m)) := by
  by_cases hne : k = i
  · subst hne
    have hf := hm.fst
    have hn6 := x.n6
    have e : (m.1 == s.me) = true := by rw [hf, x.hme]; simp
    have ho : ¬ SO.other s m.1 = true := fun h => (x.other.1 h).2.2 hf
    have h1m : SO.rum1 s m = s := by unfold SO.rum1; rw [if_neg ho]
    have hr : SO.rum s m = SO.rum3 (SO.rum2 s m) m := by
      unfold SO.rum
      rw [h1m, e, x.left]; rfl
    rw [hr]
    have x2 : Vg n P R k (SO.rum2 s m) := by
      unfold SO.rum2
      split
      · rw [x.hme]; exact x.remind h1 h2
      · exact x
    have hme2 := x2.me
    cases hR : R k with
    | true =>
      rw [hR] at hme2
      have hna : K.above m ((k : Int), 1, 0) = false := hm.top
      have h3 : SO.rum3 (SO.rum2 s m) m = SO.rum2 s m := by
        unfold SO.rum3
        rw [hme2]
        have : K.above m ((k : Int), if true = true then 1 else 0, 0) = false := hna
        rw [this]
        rfl
      rw [h3]
      refine ⟨R, Up.refl R k, x2, fun _ ⟨st, hst, hs1⟩ => ⟨hR, ?_⟩⟩
      subst hst
      have hm1 := x.me
      rw [hR] at hm1
      rcases hm with ⟨st', e', a, b, _⟩ | ⟨_, e'⟩
      · have est : st' = st := congrArg (fun q : K.Me => q.2.2) e'.symm
        subst est
        have hab : K.above ((k : Int), 1, 0) ((k : Int), 0, st') = true := by
          rw [K.above_eq]
          unfold K.good K.hi
          simp
          omega
        unfold SO.rum2
        rw [hm1]
        have : K.above ((k : Int), if true = true then 1 else 0, 0) ((k : Int), 0, st') = true := hab
        rw [if_pos this]
        unfold Op SO.remind
        show 0 < (HU.put 5 s.F (SO.of s s.me) k).2
        rw [hm1]
        have hg : K.good ((k : Int), if true = true then 1 else 0, 0) = true := by unfold K.good; simp; omega
        unfold HU.put
        rw [if_pos hg]
        unfold HU.set1
        rw [if_pos rfl]
        show (0 : Int) < 5
        omega
      · cases e'
    | false =>
      rw [hR] at hme2
      rcases hm with ⟨st, rfl, a, b, hp⟩ | ⟨hr', _⟩
      · by_cases hs : 1 ≤ st
        · have hP : P k = true := by
            cases hpk : P k with
            | true => rfl
            | false => have := hp hpk; omega
          have h3 : SO.rum3 (SO.rum2 s ((k : Int), 0, st)) ((k : Int), 0, st) = SO.learn (SO.rum2 s ((k : Int), 0, st)) ((k : Int), 1, 0) := by
            unfold SO.rum3
            rw [hme2]
            have hab : K.above ((k : Int), 0, st) ((k : Int), if false = true then 1 else 0, 0) = true := by
              show K.above ((k : Int), 0, st) ((k : Int), 0, 0) = true
              rw [K.above_eq]
              unfold K.good K.hi
              simp
              omega
            rw [hab, x2.hme]
            rfl
          rw [h3]
          obtain ⟨y, _, yo⟩ := x2.speak hP hR
          exact ⟨upR R k, up_upR R k, y, fun _ _ => ⟨by unfold upR; exact if_pos rfl, yo⟩⟩
        · have hs0 : st = 0 := by omega
          subst hs0
          have h3 : SO.rum3 (SO.rum2 s ((k : Int), 0, 0)) ((k : Int), 0, 0) = SO.rum2 s ((k : Int), 0, 0) := by
            unfold SO.rum3
            rw [hme2]
            have hab : K.above ((k : Int), 0, 0) ((k : Int), if false = true then 1 else 0, 0) = false := by
              show K.above ((k : Int), 0, 0) ((k : Int), 0, 0) = false
              rw [K.above_eq]
              unfold K.hi
              simp
            rw [hab]; rfl
          rw [h3]
          refine ⟨R, Up.refl R k, x2, fun _ ⟨st, hst, hs1⟩ => ?_⟩
          have : (0 : Int) = st := congrArg (fun q : K.Me => q.2.2) hst
          omega
      · rw [hR] at hr'; cases hr'
  · rw [x.rum_far h1 h2 hne hm]
    exact ⟨R, Up.refl R i, x.learn h1 h2 hne hm, fun e => absurd e hne⟩
theorem WW.up {P R R' : Nat → Bool} {i k : Nat} {m : K.Me} (h : WW P R k m) (u : Up R R' i) : WW P R' k m := h.mono (u.le k)
/-- a frame's words -/
theorem Vg.rums {n : Nat} {P : Nat → Bool} {i : Nat} : ∀ (l : List K.Me) {R : Nat → Bool} {s : Sc}, Vg n P R i s → (∀ m ∈ l, ∃ k : Nat, 1 ≤ k ∧ k ≤ n ∧ WW P R k m) →
    ∃ R', Up R R' i ∧ Vg n P R' i (SO.rums s l) ∧ ((R i = true ∧ Op i s) ∨ (∃ st : Int, ((i : Int), 0, st) ∈ l ∧ 1 ≤ st) → R' i = true ∧ Op i (SO.rums s l)) ∧ ∀ k : Nat, 1 ≤ k → k ≤ n → k ≠ i → Rz s k ∨ ((k : Int), 1, 0) ∈ l → Rz (SO.rums s l) k
  | [], R, s, x, h => ⟨R, Up.refl R i, x, fun h => h.elim (fun h => h) (fun ⟨st, h, _⟩ => by cases h), fun k _ _ _ h => h.elim (fun h => h) (fun h => by cases h)⟩
  | m :: r, R, s, x, h => by
    obtain ⟨k0, a1, a2, a3⟩ := h m List.mem_cons_self
    obtain ⟨R1, u1, x1, o1⟩ := x.rum a1 a2 a3
    obtain ⟨R2, u2, x2, o2, z2⟩ := Vg.rums r x1 (fun m' hm' => by
      obtain ⟨k, b1, b2, b3⟩ := h m' (List.mem_cons_of_mem _ hm')
      exact ⟨k, b1, b2, b3.up u1⟩)
    refine ⟨R2, u1.trans u2, x2, fun hh => o2 ?_, fun k k1 k2 kne hh => z2 k k1 k2 kne ?_⟩
    · rcases hh with ⟨p1, p2⟩ | ⟨st, hst, hs1⟩
      · exact Or.inl ⟨u1.le i p1, op_rum p2 m⟩
      · rcases List.mem_cons.1 hst with e | e
        · have hk : k0 = i := by
            have := a3.fst
            rw [← e] at this
            have e3 : (i : Int) = (k0 : Int) := this
            omega
          exact Or.inl (o1 hk ⟨st, e.symm, hs1⟩)
        · exact Or.inr ⟨st, e, hs1⟩
    · rcases hh with p | p
      · left
        by_cases hk0 : k0 = i
        · subst hk0
          -- a word of its own: others stay
          have hfar : (SO.rum s m).f (k : Int) = s.f (k : Int) := by
            have hmf := a3.fst
            have ho : ¬ SO.other s m.1 = true := fun h => (x.other.1 h).2.2 hmf
            have h1m : SO.rum1 s m = s := by unfold SO.rum1; rw [if_neg ho]
            have f2 : (SO.rum2 s m).f = s.f := by unfold SO.rum2; split <;> rfl
            unfold SO.rum
            rw [h1m]
            split
            · rfl
            · unfold SO.rum3
              split
              · unfold SO.learn
                split
                · rename_i hn
                  show K.stp (SO.rum2 s m).f _ k = _
                  unfold K.stp
                  rw [if_pos hn]
                  show (if (k : Int) = (SO.rum2 s m).me then _ else _) = _
                  have hme : (SO.rum2 s m).me = k0 := by
                    have : (SO.rum2 s m).me = s.me := by unfold SO.rum2; split <;> rfl
                    rw [this, x.hme]
                  rw [hme, if_neg (by omega), f2]
                · rw [f2]
              · rw [f2]
          show (SO.rum s m).f (k : Int) = _
          rw [hfar]; exact p
        · rw [x.rum_far a1 a2 hk0 a3]
          exact rz_learn p a3
      · rcases List.mem_cons.1 p with e | e
        · left
          have hk : k0 = k := by
            have := a3.fst
            rw [← e] at this
            have e3 : (k : Int) = (k0 : Int) := this
            omega
          subst hk
          rw [x.rum_far a1 a2 kne a3, ← e]
          exact x.learn_rz k1 k2
        · exact Or.inr e
theorem Vg.heed {n : Nat} {P R : Nat → Bool} {i j : Nat} {s : Sc} (x : Vg n P R i s) {f : Fr} (hf : FG n P R j f) (j1 : 1 ≤ j) (j2 : j ≤ n) : Vg n P R i (SO.heed s f) ∧ (SO.heed s f).f = s.f := by
  unfold SO.heed
  split
  · exact ⟨x, rfl⟩
  · rw [hf.frm]
    exact ⟨x.remind j1 j2, rfl⟩
/-- all that is to be told is told -/
theorem told_open {s : Sc} (h : Sy s) {i : Nat} (h1 : 1 ≤ i) (h6 : i ≤ 6) (ho : Op i s) : (s.F (i : Int)).1 ∈ HU.told s.F (HU.cnt s.F 6) := by
  have hl := HU.tl_len s.F
  have hc : HU.cnt s.F 6 = (HU.tl s.F).length := by unfold HU.cnt; omega
  unfold HU.told
  rw [hc, List.take_length]
  refine List.mem_map.2 ⟨s.F (i : Int), ?_, rfl⟩
  rw [HU.mem_tl, HU.mem_lf h.1]
  have := (h.1.at' (i : Int) ho).2
  rw [this]
  exact ⟨rfl, ho, by omega, by omega⟩
end Go.Proofs.Ytebmgajijjhinaa.SO

/- Words that rise again: a frame comes, a tick: on lists. -/
namespace Go.Proofs.Ytebmgajijjhinaa.SO
set_option linter.unusedVariables false
set_option linter.unusedSimpArgs false

theorem Vg.act {n : Nat} {P R : Nat → Bool} {i j : Nat} {s : Sc} (x : Vg n P R i s) {f : Fr} (hf : FG n P R j f) (j1 : 1 ≤ j) (j2 : j ≤ n) : Vg n P R i (act s f).1 ∧ ∀ g ∈ (act s f).2, FG n P R i g := by
  unfold SO.act
  split
  · exact ⟨x.tellS _, x.tellL _ (fun y hy => by simp at hy; subst hy; show 1 ≤ f.frm ∧ f.frm ≤ n; rw [hf.frm]; omega)⟩
  · split
    · unfold errand
      split
      · rename_i h
        rw [Bool.and_eq_true, x.other] at h
        have y := x.like (s' := { s with seq := s.seq + 1, er := addE s.er ⟨s.seq + 1, f.node, f.frm, f.seq, false⟩ }) rfl rfl rfl (x.sy.like rfl rfl) x.ln x.pn (fun e he => by
          rcases addE_mem he with he | rfl
          · exact x.ea e he
          · show 1 ≤ f.frm ∧ f.frm ≤ n; rw [hf.frm]; omega) (addE_len _ x.el)
        exact ⟨y.tellS _, y.tellL _ (fun z hz => by simp at hz; subst hz; exact ⟨h.1.1, h.1.2.1⟩)⟩
      · exact ⟨x, fun g hg => by cases hg⟩
    · split
      · have hp : Vg n P R i (pHear s f) := by
          obtain ⟨g1, g2, g3, g4, g5⟩ := pHear_like s f
          have g6 : (pHear s f).F = s.F := by unfold pHear; split <;> rfl
          have g7 : (pHear s f).er = s.er := by unfold pHear; split <;> rfl
          exact x.like g1 g2 g3 (x.sy.like g3 g6) (by rw [g5]; exact x.ln) (by rw [g4]; exact x.pn) (by rw [g7]; exact x.ea) (by rw [g7]; exact x.el)
        unfold ackE
        split
        · rename_i e he
          have hm := List.mem_of_find?_eq_some he
          have y := hp.like (s' := { pHear s f with er := closeL f (pHear s f).er }) rfl rfl rfl (hp.sy.like rfl rfl) hp.ln hp.pn (closeL_ea hp.ea) (by show (closeL f (pHear s f).er).length ≤ 16; rw [closeL_length]; exact hp.el)
          exact ⟨y.tellS _, y.tellL _ (fun z hz => by simp at hz; subst hz; exact hp.ea e hm)⟩
        · exact ⟨hp, fun g hg => by cases hg⟩
      · exact ⟨x, fun g hg => by cases hg⟩
theorem act_f (s : Sc) (f : Fr) : (act s f).1.f = s.f := by
  have t : ∀ (l : List Fr) (s' : Sc), (tellS s' l).f = s'.f := fun l s' => (tellS_like l s').2.2.1
  unfold act
  split
  · exact t _ s
  · split
    · unfold errand
      split
      · exact t _ _
      · rfl
    · split
      · have hp : (pHear s f).f = s.f := (pHear_like s f).2.2.1
        unfold ackE
        split
        · exact (t _ _).trans hp
        · exact hp
      · rfl
/-- a frame comes -/
theorem Vg.hear {n : Nat} {P R : Nat → Bool} {i j : Nat} {s : Sc} (x : Vg n P R i s) {f : Fr} (hf : FG n P R j f) (j1 : 1 ≤ j) (j2 : j ≤ n) (hne : j ≠ i) :
    ∃ R', Up R R' i ∧ Vg n P R' i (SO.hear s f).1 ∧ (∀ g ∈ (SO.hear s f).2, FG n P R' i g) ∧ (∀ k : Nat, 1 ≤ k → k ≤ n → k ≠ i → Rz s k ∨ ((k : Int), 1, 0) ∈ f.rum → Rz (SO.hear s f).1 k) ∧
      (f.kind = 1 → (∃ st : Int, ((i : Int), 0, st) ∈ f.rum ∧ 1 ≤ st) → ∃ g ∈ (SO.hear s f).2, g.kind = 2 ∧ g.frm = i ∧ g.dst = j ∧ ((i : Int), 1, 0) ∈ g.rum) ∧
      (SO.hear s f).1.pn = s.pn ∧ (SO.hear s f).1.ps = s.ps ∧ (s.pa = true → (SO.hear s f).1.pa = true) ∧ (f.kind = 2 → f.seq = s.ps → f.node = s.pn → f.frm = s.pn → (SO.hear s f).1.pa = true) ∧ (f.kind = 1 → ∃ g ∈ (SO.hear s f).2, g.kind = 2 ∧ g.frm = i ∧ g.dst = f.frm ∧ g.seq = f.seq ∧ g.node = i) := by
  have ho : SO.other s f.frm = true := x.other.2 (by rw [hf.frm]; omega)
  obtain ⟨xh, fh⟩ := x.heed hf j1 j2
  obtain ⟨R', u, y, oo, zz⟩ := Vg.rums f.rum xh hf.rw
  have hp : pr (SO.rums (SO.heed s f) f.rum) = pr s := (pr_rums f.rum _).trans (pr_heed s f)
  have e : SO.hear s f = SO.act (SO.rums (SO.heed s f) f.rum) f := by
    unfold SO.hear
    rw [if_pos ho, y.left, if_neg (by decide)]
  have hfu : FG n P R' j f := hf.rise u.le
  obtain ⟨a1, a2⟩ := y.act hfu j1 j2
  have p1 : (SO.rums (SO.heed s f) f.rum).pn = s.pn := congrArg (fun q : Int × Int × Bool × List Er => q.1) hp
  have p2 : (SO.rums (SO.heed s f) f.rum).ps = s.ps := congrArg (fun q : Int × Int × Bool × List Er => q.2.1) hp
  have p3 : (SO.rums (SO.heed s f) f.rum).pa = s.pa := congrArg (fun q : Int × Int × Bool × List Er => q.2.2.1) hp
  obtain ⟨b1, b2, b3, b4⟩ := act_pr (SO.rums (SO.heed s f) f.rum) f
  rw [p1] at b1 b4
  rw [p2] at b2 b4
  rw [p3] at b3
  rw [e]
  have hn6 := x.n6
  refine ⟨R', u, a1, a2, fun k k1 k2 kne hh => ?_, fun hk hh => ?_, b1, b2, b3, b4, fun hk => ?_⟩
  · have := zz k k1 k2 kne (by
      rcases hh with h | h
      · left; show (SO.heed s f).f (k : Int) = _; rw [fh]; exact h
      · exact Or.inr h)
    show (SO.act _ f).1.f (k : Int) = _
    rw [act_f]; exact this
  · obtain ⟨hr, hop⟩ := oo (Or.inr hh)
    have hown := y.own
    rw [hr] at hown
    have hto := told_open y.sy x.i1 (by have := x.i2; omega) hop
    have hw := y.sy.2 (i : Int) hop
    rw [hown] at hw
    have hw2 := Option.some.inj hw
    rw [← hw2] at hto
    unfold SO.act
    rw [if_pos hk]
    exact ⟨_, List.mem_cons_self, rfl, y.hme, hf.frm, hto⟩
  · unfold SO.act
    rw [if_pos hk]
    exact ⟨_, List.mem_cons_self, rfl, y.hme, rfl, rfl, y.hme⟩
theorem Vg.absent {n : Nat} {P R : Nat → Bool} {i : Nat} {s : Sc} (x : Vg n P R i s) {p : K.Me → Bool} {k : Int} (h : k ∈ those s p) : ∃ j : Nat, k = j ∧ 1 ≤ j ∧ j ≤ n ∧ ∃ m, p m = true ∧ s.f j = some m ∧ WW P R j m := by
  unfold those at h
  obtain ⟨m, hm, rfl⟩ := List.mem_map.1 h
  obtain ⟨h1, h2⟩ := List.mem_filter.1 hm
  unfold K.all K.allN at h1
  obtain ⟨q, hq, hf⟩ := List.mem_filterMap.1 h1
  by_cases hr : 1 ≤ ((q : Int) + 1) ∧ ((q : Int) + 1) ≤ n
  · obtain ⟨m', g1, g2⟩ := x.wd (q + 1) (by omega) (by omega)
    have e : (((q + 1 : Nat) : Int)) = (q : Int) + 1 := by omega
    rw [e] at g1
    rw [g1] at hf
    cases hf
    have := g2.fst
    exact ⟨q + 1, by omega, by omega, by omega, m, h2, by rw [e]; exact g1, g2⟩
  · rw [x.dm _ hr] at hf; cases hf
theorem Vg.oth {n : Nat} {P R : Nat → Bool} {i : Nat} {s : Sc} (x : Vg n P R i s) {k : Int} (h : k ∈ oth s) : k ∈ oth0 i n := by
  unfold SO.oth at h
  obtain ⟨h1, h2⟩ := List.mem_filter.1 h
  rw [pres_those] at h1
  obtain ⟨j, rfl, j1, j2, _⟩ := x.absent h1
  rw [x.hme] at h2
  exact mem_oth0.2 ⟨⟨by omega, by omega⟩, by simpa using h2⟩
theorem Vg.there {n : Nat} {P R : Nat → Bool} {i : Nat} {s : Sc} (x : Vg n P R i s) {j : Nat} (j1 : 1 ≤ j) (j2 : j ≤ n) {m : K.Me} (hf : s.f j = some m) (hm : m.1 = j) (hs : K.here m = true) : isP s (j : Int) = true := by
  unfold isP
  rw [List.contains_iff_mem, pres_those]
  unfold those
  refine List.mem_map.2 ⟨m, List.mem_filter.2 ⟨?_, hs⟩, hm⟩
  unfold K.all K.allN
  refine List.mem_filterMap.2 ⟨j - 1, List.mem_range.2 (by have := x.n6; omega), ?_⟩
  rw [show ((j - 1 : Nat) : Int) + 1 = (j : Int) by omega]
  exact hf
/-- who is sought is held for gone -/
theorem Vg.sought {n : Nat} {P R : Nat → Bool} {i : Nat} {s : Sc} (x : Vg n P R i s) {k : Int} (h : sought s = some k) : ∃ j : Nat, k = j ∧ 1 ≤ j ∧ j ≤ n ∧ j ≠ i ∧ s.f j = some ((j : Int), 0, 2) := by
  unfold SO.sought at h
  split at h
  · cases h
  · obtain ⟨j, rfl, j1, j2, m, hp, hf, hw⟩ := x.absent (List.mem_of_getElem? h)
    have hnp : isP s (j : Int) = false := by
      have := hw.fst
      have hp' : (!isP s m.1) = true := hp
      rw [this] at hp'
      simpa using hp'
    have hst : K.here m = false := by
      cases hh : K.here m with
      | false => rfl
      | true => rw [x.there j1 j2 hf hw.fst hh] at hnp; cases hnp
    have h2 : m = ((j : Int), 0, 2) := by
      rcases hw with ⟨st, rfl, a, b, _⟩ | ⟨_, rfl⟩
      · unfold K.here at hst
        simp at hst
        have : st = 2 := by omega
        rw [this]
      · unfold K.here at hst
        simp at hst
    refine ⟨j, rfl, j1, j2, fun e => ?_, by rw [hf, h2]⟩
    subst e
    rw [x.own, h2] at hf
    have := congrArg (fun q : K.Me => q.2.2) (Option.some.inj hf)
    simp at this
/-- a round begins -/
theorem Vg.ask {n : Nat} {P R : Nat → Bool} {i : Nat} {s : Sc} (x : Vg n P R i s) (d : Int) : Vg n P R i (ask s d).1 ∧ (∀ g ∈ (ask s d).2, FG n P R i g) ∧ (ask s d).1.f = s.f ∧
    ((isOpen (ask s d).1 = false) ∨ Wit i (ask s d).1 (ask s d).2) ∧ (ask s d).1.er = s.er ∧ wts (ask s d).2 ≤ 8 ∧
    ∀ j : Nat, SO.sought (ask0 s) = some (j : Int) → ∃ g ∈ (ask s d).2, g.kind = 1 ∧ g.frm = i ∧ g.dst = j ∧ ((j : Int), 0, 2) ∈ g.rum := by
  have h0 : (0 : Int) ≤ 0 ∧ (0 : Int) ≤ n ∧ (0 : Int) ≠ i := by have := x.i1; omega
  have x0 : Vg n P R i (ask0 s) := x.like rfl rfl rfl (x.sy.like rfl rfl) x.ln h0 x.ea x.el
  have hn6 := x.n6
  have wit : ∀ (s1 : Sc) (k : Int), s1.me = i → s1.er = s.er → s1.pn = k → s1.ps = s.seq + 1 → Wit i (SO.tellS s1 [ping k (s.seq + 1)]) (SO.tellL s1 [ping k (s.seq + 1)]) ∧ (SO.tellS s1 [ping k (s.seq + 1)]).er = s.er ∧ wts (SO.tellL s1 [ping k (s.seq + 1)]) ≤ 8 := fun s1 k hm he hp hs => by
    have e := pr_tellS [ping k (s.seq + 1)] s1
    have e1 : (SO.tellS s1 [ping k (s.seq + 1)]).pn = k := (congrArg (fun q : Int × Int × Bool × List Er => q.1) e).trans hp
    have e2 : (SO.tellS s1 [ping k (s.seq + 1)]).ps = s.seq + 1 := (congrArg (fun q : Int × Int × Bool × List Er => q.2.1) e).trans hs
    have e4 : (SO.tellS s1 [ping k (s.seq + 1)]).er = s.er := (congrArg (fun q : Int × Int × Bool × List Er => q.2.2.2) e).trans he
    refine ⟨⟨_, List.mem_cons_self, Or.inl ⟨rfl, hm, ?_, ?_⟩⟩, e4, by rw [wts_tellL]; show 2 + 0 ≤ 8; omega⟩
    · rw [e1]; rfl
    · rw [e2]; rfl
  unfold SO.ask
  cases hs : SO.sought (ask0 s) with
  | some k =>
    obtain ⟨j, rfl, j1, j2, hji, hfj⟩ := x0.sought hs
    have y := x0.remind j1 j2
    have z : Vg n P R i (ask1 (SO.remind (ask0 s) j) j) := y.like rfl rfl rfl (y.sy.like rfl rfl) y.ln (by show (0 : Int) ≤ (j : Int) ∧ (j : Int) ≤ n ∧ (j : Int) ≠ i; omega) y.ea y.el
    obtain ⟨w1, w2, w3⟩ := wit (ask1 (SO.remind (ask0 s) j) j) j x.hme rfl rfl rfl
    refine ⟨z.tellS _, z.tellL _ (fun q hq => by simp at hq; subst hq; show 1 ≤ (j : Int) ∧ (j : Int) ≤ n; omega), (tellS_like _ _).2.2.1, Or.inr w1, w2, w3, fun j' hj' => ?_⟩
    have hj'' : j' = j := by
      have := Option.some.inj hj'
      omega
    subst hj''
    refine ⟨_, List.mem_cons_self, rfl, x.hme, rfl, ?_⟩
    have hop : Op j' (ask1 (SO.remind (ask0 s) j') j') := by
      show 0 < (HU.put 5 s.F (SO.of (ask0 s) j') j').2
      have hof : SO.of (ask0 s) (j' : Int) = ((j' : Int), 0, 2) := by unfold SO.of; rw [hfj]; rfl
      rw [hof]
      have hg : K.good ((j' : Int), 0, 2) = true := by unfold K.good; simp; omega
      unfold HU.put
      rw [if_pos hg]
      unfold HU.set1
      rw [if_pos rfl]
      show (0 : Int) < 5
      omega
    have hto := told_open z.sy j1 (by omega) hop
    have hw := z.sy.2 (j' : Int) hop
    have hfz : (ask1 (SO.remind (ask0 s) j') j').f (j' : Int) = some ((j' : Int), 0, 2) := hfj
    rw [hfz] at hw
    rw [← Option.some.inj hw] at hto
    exact hto
  | none =>
    rcases hx : nextL (ask0 s) d with ⟨o, s'⟩
    cases o with
    | some k =>
      obtain ⟨r, rfl, hk, hr⟩ := nextL_some hx
      have hk' : k ∈ oth0 i n := by
        rcases hk with h | h
        · exact x0.ln k h
        · exact x0.oth h
      have hk2 := mem_oth0.1 hk'
      have z : Vg n P R i (ask1 { ask0 s with line := r } k) := x0.like rfl rfl rfl (x0.sy.like rfl rfl) (fun j hj => by
        rcases hr j hj with h | h
        · exact x0.ln j h
        · exact x0.oth h) (by show (0 : Int) ≤ k ∧ k ≤ n ∧ k ≠ i; omega) x0.ea x0.el
      obtain ⟨w1, w2, w3⟩ := wit (ask1 { ask0 s with line := r } k) k x.hme rfl rfl rfl
      exact ⟨z.tellS _, z.tellL _ (fun q hq => by simp at hq; subst hq; exact hk2.1), (tellS_like _ _).2.2.1, Or.inr w1, w2, w3, fun j' hj' => by cases hj'⟩
    | none =>
      obtain ⟨rfl, _⟩ := nextL_none hx
      refine ⟨x0.like rfl rfl rfl (x0.sy.like rfl rfl) (fun k hk => by cases hk) h0 x0.ea x0.el, fun g hg => (by cases hg), rfl, Or.inl ?_, rfl, Nat.zero_le _, fun j' hj' => (by cases hj')⟩
      unfold isOpen
      simp [ask0]
theorem Vg.gone {n : Nat} {P R : Nat → Bool} {i : Nat} : ∀ (ks : List Int) {s : Sc}, Vg n P R i s → (∀ k ∈ ks, ∃ j : Nat, k = j ∧ 1 ≤ j ∧ j ≤ n ∧ j ≠ i ∧ P j = true) → (∀ k ∈ ks, ∀ j : Nat, k = j → ¬ Rz s j) → Vg n P R i (gone s ks) ∧ ∀ k : Nat, Rz s k → Rz (gone s ks) k
  | [], s, x, _, _ => ⟨x, fun k h => h⟩
  | k :: r, s, x, h, hz => by
    obtain ⟨j, rfl, j1, j2, hji, hP⟩ := h k List.mem_cons_self
    obtain ⟨m, e1, e2, hw⟩ := x.of j1 j2
    have hnz := hz j List.mem_cons_self j rfl
    have hw' : WW P R j ((SO.of s j).1, (SO.of s j).2.1, 2) := by
      rw [e1]
      rcases hw with ⟨st, rfl, a, b, c⟩ | ⟨_, rfl⟩
      · exact Or.inl ⟨2, rfl, by omega, by omega, fun h => by rw [hP] at h; cases h⟩
      · exact absurd e2 hnz
    have y : Vg n P R i (SO.turn s j 2) := x.learn j1 j2 hji hw'
    have hrz : ∀ k : Nat, Rz s k → Rz (SO.turn s j 2) k := fun k hk => rz_learn hk hw'
    obtain ⟨z1, z2⟩ := Vg.gone r y (fun k hk => h k (List.mem_cons_of_mem _ hk)) (fun k hk q hq hzq => by
      refine hz k (List.mem_cons_of_mem _ hk) q hq ?_
      -- what has risen now had risen before
      show s.f (q : Int) = _
      have hzq' : (SO.turn s j 2).f (q : Int) = some ((q : Int), 1, 0) := hzq
      unfold SO.turn SO.learn at hzq'
      split at hzq'
      · rename_i hn
        have hs : K.stp s.f ((SO.of s j).1, (SO.of s j).2.1, 2) = fun p => if p = (SO.of s j).1 then some ((SO.of s j).1, (SO.of s j).2.1, 2) else s.f p := by unfold K.stp; rw [if_pos hn]
        have hzq2 : K.stp s.f ((SO.of s j).1, (SO.of s j).2.1, 2) (q : Int) = some ((q : Int), 1, 0) := hzq'
        rw [hs] at hzq2
        by_cases e : (q : Int) = (SO.of s j).1
        · have hzq3 : (if (q : Int) = (SO.of s j).1 then some ((SO.of s j).1, (SO.of s j).2.1, (2 : Int)) else s.f q) = some ((q : Int), 1, 0) := hzq2
          rw [if_pos e] at hzq3
          have := congrArg (fun o : K.Me => o.2.2) (Option.some.inj hzq3)
          simp at this
        · have hzq3 : (if (q : Int) = (SO.of s j).1 then some ((SO.of s j).1, (SO.of s j).2.1, (2 : Int)) else s.f q) = some ((q : Int), 1, 0) := hzq2
          rw [if_neg e] at hzq3
          exact hzq3
      · exact hzq')
    exact ⟨z1, fun k hk => z2 k (hrz k hk)⟩
theorem Vg.over {n : Nat} {P R : Nat → Bool} {i : Nat} {s : Sc} (x : Vg n P R i s) : Vg n P R i (over s) ∧ ∀ k : Nat, Rz s k → Rz (over s) k := by
  have key : ∀ k ∈ those s (overdue s), ∃ j : Nat, k = j ∧ 1 ≤ j ∧ j ≤ n ∧ ∃ m, m.2.2 = 1 ∧ s.f j = some m ∧ WW P R j m := fun k hk => by
    obtain ⟨j, rfl, j1, j2, m, hp, hf, hw⟩ := x.absent hk
    unfold overdue at hp
    simp at hp
    exact ⟨j, rfl, j1, j2, m, hp.1, hf, hw⟩
  refine x.gone _ (fun k hk => ?_) (fun k hk j hj hz => ?_)
  · obtain ⟨j, rfl, j1, j2, m, h1, hf, hw⟩ := key k hk
    refine ⟨j, rfl, j1, j2, fun e => ?_, ?_⟩
    · subst e
      rw [x.own] at hf
      rw [← Option.some.inj hf] at h1
      simp at h1
    · rcases hw with ⟨st, rfl, a, b, c⟩ | ⟨_, rfl⟩
      · cases hP : P j with
        | true => rfl
        | false => have := c hP; simp at h1; omega
      · simp at h1
  · obtain ⟨q, rfl, j1, j2, m, h1, hf, hw⟩ := key k hk
    have : q = j := by omega
    subst this
    unfold Rz at hz
    rw [hz] at hf
    rw [← Option.some.inj hf] at h1
    simp at h1
/-- a tick -/
theorem Vg.tick {n : Nat} {P R : Nat → Bool} {i : Nat} {s : Sc} (x : Vg n P R i s) (hd : isOpen s = false ∨ s.now.tmod 4 = 0) (d : Int) :
    Vg n P R i (tick s d).1 ∧ (∀ g ∈ (tick s d).2, FG n P R i g) ∧ (∀ k : Nat, Rz s k → Rz (tick s d).1 k) ∧ (isOpen (tick s d).1 = false ∨ Wit i (tick s d).1 (tick s d).2) ∧ (tick s d).1.er = s.er ∧ wts (tick s d).2 ≤ 8 ∧ (tick s d).1.now = s.now + 1 ∧
    (s.now.tmod 4 = 0 → ∀ j : Nat, SO.sought (ask0 (tick0 s)) = some (j : Int) → ∃ g ∈ (tick s d).2, g.kind = 1 ∧ g.frm = i ∧ g.dst = j ∧ ((j : Int), 0, 2) ∈ g.rum) := by
  have x0 : Vg n P R i (tick0 s) := x.like rfl rfl rfl (x.sy.like rfl rfl) x.ln x.pn x.ea x.el
  have e1 : (SO.tick0 s).now - 1 = s.now := by show s.now + 1 - 1 = s.now; omega
  have key : Vg n P R i (mid (tick0 s) d).1 ∧ (∀ g ∈ (mid (tick0 s) d).2, FG n P R i g) ∧ (mid (tick0 s) d).1.f = s.f ∧ (isOpen (mid (tick0 s) d).1 = false ∨ Wit i (mid (tick0 s) d).1 (mid (tick0 s) d).2) ∧ (mid (tick0 s) d).1.er = s.er ∧ wts (mid (tick0 s) d).2 ≤ 8 ∧ (s.now.tmod 4 = 0 → ∀ j : Nat, SO.sought (ask0 (tick0 s)) = some (j : Int) → ∃ g ∈ (mid (tick0 s) d).2, g.kind = 1 ∧ g.frm = i ∧ g.dst = j ∧ ((j : Int), 0, 2) ∈ g.rum) := by
    unfold SO.mid
    rw [e1]
    by_cases h4 : s.now.tmod 4 = 0
    · rw [if_pos h4]
      obtain ⟨a, b, c, e, f, g, h⟩ := x0.ask d
      exact ⟨a, b, c, e, f, g, fun _ => h⟩
    · rw [if_neg h4]
      have ho : isOpen (tick0 s) = false := by
        rcases hd with h | h
        · exact h
        · exact absurd h h4
      have hA : askH (tick0 s) = (tick0 s, []) := by unfold askH; rw [ho]; rfl
      have hD : doubt (tick0 s) = tick0 s := by unfold doubt; rw [ho]; rfl
      have same : Vg n P R i (tick0 s) ∧ (∀ g ∈ ([] : List Fr), FG n P R i g) ∧ (tick0 s).f = s.f ∧ (isOpen (tick0 s) = false ∨ Wit i (tick0 s) []) ∧ (tick0 s).er = s.er ∧ wts [] ≤ 8 ∧ (s.now.tmod 4 = 0 → ∀ j : Nat, SO.sought (ask0 (tick0 s)) = some (j : Int) → ∃ g ∈ ([] : List Fr), g.kind = 1 ∧ g.frm = i ∧ g.dst = j ∧ ((j : Int), 0, 2) ∈ g.rum) := ⟨x0, fun g hg => (by cases hg), rfl, Or.inl ho, rfl, Nat.zero_le _, fun h => absurd h h4⟩
      split
      · rw [hA]; exact same
      · split
        · rw [hD]; exact same
        · exact same
  obtain ⟨k1, k2, k3, k4, k5, k6, k7⟩ := key
  have e := pr_over (SO.mid (tick0 s) d).1
  have f1 : (SO.over (SO.mid (tick0 s) d).1).pn = (SO.mid (tick0 s) d).1.pn := congrArg (fun q : Int × Int × Bool × List Er => q.1) e
  have f2 : (SO.over (SO.mid (tick0 s) d).1).ps = (SO.mid (tick0 s) d).1.ps := congrArg (fun q : Int × Int × Bool × List Er => q.2.1) e
  have f3 : (SO.over (SO.mid (tick0 s) d).1).pa = (SO.mid (tick0 s) d).1.pa := congrArg (fun q : Int × Int × Bool × List Er => q.2.2.1) e
  have f4 : (SO.over (SO.mid (tick0 s) d).1).er = (SO.mid (tick0 s) d).1.er := congrArg (fun q : Int × Int × Bool × List Er => q.2.2.2) e
  obtain ⟨o1, o2⟩ := k1.over
  have hnow : ∀ (ks : List Int) (s' : Sc), (SO.gone s' ks).now = s'.now := fun ks => by
    induction ks with
    | nil => intro s'; rfl
    | cons k r ih =>
      intro s'
      show (SO.gone (SO.turn s' k 2) r).now = _
      rw [ih]
      unfold SO.turn SO.learn
      split <;> rfl
  have hmn : (mid (tick0 s) d).1.now = s.now + 1 := by
    have ht : ∀ (l : List Fr) (s' : Sc), (SO.tellS s' l).now = s'.now := fun l s' => (hv_tellS l s').now
    unfold SO.mid
    split
    · exact (hw_ask (tick0 s) d).now
    · split
      · unfold askH
        split
        · exact ht _ _
        · rfl
      · split
        · show (doubt (tick0 s)).now = _
          unfold doubt
          split
          · unfold SO.turn SO.learn
            split <;> rfl
          · rfl
        · rfl
  unfold SO.tick
  rw [x0.left, if_neg (by decide)]
  refine ⟨o1, k2, fun k hk => o2 k (by show (mid (tick0 s) d).1.f (k : Int) = _; rw [k3]; exact hk), ?_, f4.trans k5, k6, (hnow _ _).trans hmn, k7⟩
  rcases k4 with h | h
  · left
    unfold isOpen at h ⊢
    simp only
    rw [f1, f3]; exact h
  · exact Or.inr (h.mono f1 f2 (fun f hf => hf))
end Go.Proofs.Ytebmgajijjhinaa.SO

/- Words that rise again: a round: on lists. -/
namespace Go.Proofs.Ytebmgajijjhinaa.SO
set_option linter.unusedVariables false
set_option linter.unusedSimpArgs false

abbrev A0 : Nat → Bool := fun _ => false
theorem Vg.ri {n : Nat} {P R : Nat → Bool} {i : Nat} {s : Sc} (x : Vg n P R i s) : RI i n false s := by
  have hn6 := x.n6
  have h1 := x.i1
  have h2 := x.i2
  have hp := x.pn
  refine ⟨x.n6, x.hme, by omega, by omega, x.hn, fun k m h => ?_, fun k => ?_, ?_, ⟨hp.2.2, hp.1, hp.2.1⟩, fun k hk => ?_⟩
  · by_cases hr : 1 ≤ k ∧ k ≤ n
    · obtain ⟨m', e, hw⟩ := x.wd k.toNat (by omega) (by omega)
      have ek : ((k.toNat : Nat) : Int) = k := by omega
      rw [ek] at e
      rw [e] at h
      cases h
      exact ⟨hw.good (by omega) (by omega), by rw [hw.fst]; exact ek⟩
    · rw [x.dm k hr] at h; cases h
  · constructor
    · rintro ⟨m, h⟩
      by_cases hr : 1 ≤ k ∧ k ≤ n
      · exact hr
      · rw [x.dm k hr] at h; cases h
    · intro hr
      obtain ⟨m', e, _⟩ := x.wd k.toNat (by omega) (by omega)
      have ek : ((k.toNat : Nat) : Int) = k := by omega
      rw [ek] at e
      exact ⟨m', e⟩
  · have := x.me
    rw [x.hme] at this
    rw [this]; rfl
  · have := mem_oth0.1 (x.ln k hk)
    exact ⟨this.2, this.1.1, this.1.2⟩
/-- held for gone, or risen -/
def Gz (s : Sc) (k : Nat) : Prop := s.f (k : Int) = some ((k : Int), 0, 2) ∨ Rz s k
theorem Gz.rise {n : Nat} {P R : Nat → Bool} {i : Nat} {s s' : Sc} {k : Nat} (h : Gz s k) (hr : Rise s.f s'.f) (y : Vg n P R i s') (h1 : 1 ≤ k) (h2 : k ≤ n) : Gz s' k := by
  obtain ⟨m2, e2, hw⟩ := y.wd k h1 h2
  rcases hr (k : Int) with ⟨_, b⟩ | ⟨m, m', a, b, c⟩
  · rw [b] at e2; cases e2
  · rw [b] at e2
    have e3 := Option.some.inj e2
    subst e3
    rcases h with h | h
    · rw [h] at a
      have e4 := Option.some.inj a
      subst e4
      rcases c with c | c
      · left; rw [b, c]
      · right
        rcases hw with ⟨st, rfl, s1, s2, _⟩ | ⟨_, rfl⟩
        · exfalso
          rw [K.above_eq] at c
          simp only [Bool.and_eq_true] at c
          have c2 := c.2
          unfold K.hi at c2
          simp at c2
          omega
        · exact b
    · unfold Rz at h
      rw [h] at a
      have e4 := Option.some.inj a
      subst e4
      rcases c with c | c
      · right; show s'.f (k : Int) = _; rw [b, c]
      · rw [hw.top] at c; cases c
/-- a word that rises is under way -/
def Zk (ss : Nat → Sc) (net : List Fr) (y k : Nat) : Prop := Rz (ss y) k ∨ (∃ f ∈ net, f.kind = 1 ∧ f.frm = y ∧ f.dst = k ∧ ((k : Int), 0, 2) ∈ f.rum) ∨ (∃ f ∈ net, f.kind = 2 ∧ f.frm = k ∧ f.dst = y ∧ ((k : Int), 1, 0) ∈ f.rum)
structure RG (n : Nat) (P R : Nat → Bool) (ss : Nat → Sc) (net : List Fr) : Prop where
  v : ∀ i, 1 ≤ i → i ≤ n → Vg n P R i (ss i)
  fr : ∀ f ∈ net, ∃ j, 1 ≤ j ∧ j ≤ n ∧ FG n P R j f
  pb : ∀ i, 1 ≤ i → i ≤ n → isOpen (ss i) = false ∨ Wit i (ss i) net
theorem Vg.hear_self {n : Nat} {P R : Nat → Bool} {i : Nat} {s : Sc} (x : Vg n P R i s) {f : Fr} (hf : f.frm = i) : SO.hear s f = (s, []) := by
  have ho : ¬ SO.other s f.frm = true := fun h => (x.other.1 h).2.2 hf
  unfold SO.hear
  rw [if_neg ho]
theorem up_self (ss : Nat → Sc) (i : Nat) : up ss i (ss i) = ss := by funext j; unfold up; split <;> simp_all
/-- one frame comes -/
theorem RG.step {n : Nat} {P R : Nat → Bool} {ss : Nat → Sc} {f : Fr} {r : List Fr} (x : RG n P R ss (f :: r)) :
    ∃ R', (∀ q, R q = true → R' q = true) ∧ RG n P R' (hr1 A0 (ss, f :: r)).1 (hr1 A0 (ss, f :: r)).2 ∧ (∀ y k, 1 ≤ y → y ≤ n → 1 ≤ k → k ≤ n → y ≠ k → Zk ss (f :: r) y k → Zk (hr1 A0 (ss, f :: r)).1 (hr1 A0 (ss, f :: r)).2 y k) ∧ (∀ q, 1 ≤ q → q ≤ n → Rise (ss q).f ((hr1 A0 (ss, f :: r)).1 q).f) := by
  obtain ⟨j, j1, j2, hf⟩ := x.fr f List.mem_cons_self
  have hd1 := hf.d1
  have hd2 := hf.d2
  have hfj : f.frm.toNat = j := by rw [hf.frm]; omega
  have e : hr1 A0 (ss, f :: r) = (up ss f.dst.toNat (hear (ss f.dst.toNat) f).1, r ++ (hear (ss f.dst.toNat) f).2) := rfl
  rw [e]
  obtain ⟨i, hi⟩ : ∃ i, i = f.dst.toNat := ⟨_, rfl⟩
  have hdi : f.dst = (i : Int) := by omega
  rw [← hi]
  dsimp only
  have i1 : 1 ≤ i := by omega
  have i2 : i ≤ n := by omega
  have xi := x.v i i1 i2
  have hup : up ss i (hear (ss i) f).1 i = (hear (ss i) f).1 := if_pos rfl
  have hun : ∀ q, q ≠ i → up ss i (hear (ss i) f).1 q = ss q := fun q hq => if_neg hq
  by_cases hji : j = i
  · subst hji
    have hs := xi.hear_self hf.frm
    rw [hs]
    simp only [up_self, List.append_nil]
    refine ⟨R, fun _ h => h, ⟨x.v, fun g hg => x.fr g (List.mem_cons_of_mem _ hg), fun q q1 q2 => ?_⟩, fun y k y1 y2 k1 k2 hyk hz => ?_, fun q _ _ => Rise.refl _⟩
    · rcases x.pb q q1 q2 with h | ⟨g, hg, hw⟩
      · exact Or.inl h
      · refine Or.inr ⟨g, ?_, hw⟩
        rcases List.mem_cons.1 hg with e | hg
        · exfalso
          subst e
          have hpn := (x.v q q1 q2).pn
          rcases hw with ⟨_, w1, w2, _⟩ | ⟨_, w1, w2, _⟩
          · rw [hf.frm] at w1; rw [hdi] at w2; omega
          · rw [hf.frm] at w1; rw [hdi] at w2; omega
        · exact hg
    · rcases hz with h | ⟨g, hg, a, b, c, d⟩ | ⟨g, hg, a, b, c, d⟩
      · exact Or.inl h
      · rcases List.mem_cons.1 hg with e | hg
        · exfalso; subst e; rw [hf.frm] at b; rw [hdi] at c; omega
        · exact Or.inr (Or.inl ⟨g, hg, a, b, c, d⟩)
      · rcases List.mem_cons.1 hg with e | hg
        · exfalso; subst e; rw [hf.frm] at b; rw [hdi] at c; omega
        · exact Or.inr (Or.inr ⟨g, hg, a, b, c, d⟩)
  · obtain ⟨R', u, y0, fr', zz, ack1, p1, p2, p3, p4, p5⟩ := xi.hear hf j1 j2 hji
    refine ⟨R', u.le, ⟨fun q q1 q2 => ?_, fun g hg => ?_, fun q q1 q2 => ?_⟩, fun y k y1 y2 k1 k2 hyk hz => ?_, fun q q1 q2 => ?_⟩
    · by_cases hq : q = i
      · subst hq; rw [hup]; exact y0
      · rw [hun q hq]; exact (x.v q q1 q2).rise u.le (u.eq q hq) y0.rp
    · rcases List.mem_append.1 hg with hg | hg
      · obtain ⟨j', a, b, c⟩ := x.fr g (List.mem_cons_of_mem _ hg)
        exact ⟨j', a, b, c.rise u.le⟩
      · exact ⟨i, i1, i2, fr' g hg⟩
    · by_cases hq : q = i
      · subst hq
        rw [hup]
        have stay : isOpen (ss q) = false → isOpen (hear (ss q) f).1 = false := fun h => by
          unfold isOpen at h ⊢
          rw [p1]
          cases hpn : ((ss q).pn == 0) with
          | true => simp
          | false =>
            rw [hpn] at h
            have hpa : (ss q).pa = true := by simpa using h
            rw [p3 hpa]; rfl
        rcases x.pb q q1 q2 with h | ⟨g, hg, hw⟩
        · exact Or.inl (stay h)
        · rcases List.mem_cons.1 hg with e | hg
          · subst e
            rcases hw with ⟨_, w1, _, _⟩ | ⟨w0, w1, w2, w3, w4⟩
            · exfalso; rw [hf.frm] at w1; omega
            · left
              have := p4 w0 w3 w4 w1
              unfold isOpen
              rw [this]; simp
          · right
            refine ⟨g, List.mem_append_left _ hg, ?_⟩
            rw [p1, p2]; exact hw
      · rw [hun q hq]
        rcases x.pb q q1 q2 with h | ⟨g, hg, hw⟩
        · exact Or.inl h
        · right
          rcases List.mem_cons.1 hg with e | hg
          · subst e
            rcases hw with ⟨w0, w1, w2, w3⟩ | ⟨_, _, w2, _⟩
            · obtain ⟨g', hg', a, b, c, d, e'⟩ := p5 w0
              refine ⟨g', List.mem_append_right _ hg', Or.inr ⟨a, ?_, ?_, ?_, ?_⟩⟩
              · rw [b, ← w2, hdi]
              · rw [c, w1]
              · rw [d, w3]
              · rw [e', ← w2, hdi]
            · exfalso; rw [hdi] at w2; omega
          · exact ⟨g, List.mem_append_left _ hg, hw⟩
    · rcases hz with h | ⟨g, hg, a, b, c, d⟩ | ⟨g, hg, a, b, c, d⟩
      · left
        by_cases hy : y = i
        · subst hy; rw [hup]; exact zz k k1 k2 (Ne.symm hyk) (Or.inl h)
        · rw [hun y hy]; exact h
      · rcases List.mem_cons.1 hg with e | hg
        · subst e
          have hik : i = k := by rw [hdi] at c; omega
          have hjy : j = y := by rw [hf.frm] at b; omega
          subst hik
          subst hjy
          obtain ⟨g', hg', a', b', c', d'⟩ := ack1 a ⟨2, d, by omega⟩
          exact Or.inr (Or.inr ⟨g', List.mem_append_right _ hg', a', b', c', d'⟩)
        · exact Or.inr (Or.inl ⟨g, List.mem_append_left _ hg, a, b, c, d⟩)
      · rcases List.mem_cons.1 hg with e | hg
        · subst e
          have hiy : i = y := by rw [hdi] at c; omega
          subst hiy
          left
          rw [hup]
          exact zz k k1 k2 (Ne.symm hyk) (Or.inr d)
        · exact Or.inr (Or.inr ⟨g, List.mem_append_left _ hg, a, b, c, d⟩)
    · by_cases hq : q = i
      · subst hq; rw [hup]
        exact (xi.ri.hear f).2
      · rw [hun q hq]; exact Rise.refl _
theorem RG.less {n : Nat} {P R : Nat → Bool} {ss : Nat → Sc} {f : Fr} {r : List Fr} (x : RG n P R ss (f :: r)) : Ph n A0 (hr1 A0 (ss, f :: r)) + 1 ≤ Ph n A0 (ss, f :: r) := by
  obtain ⟨j, j1, j2, hf⟩ := x.fr f List.mem_cons_self
  have hd1 := hf.d1
  have hd2 := hf.d2
  have hw := wt_pos f
  have hfr : wts (f :: r) = wt f + wts r := rfl
  have e : hr1 A0 (ss, f :: r) = (up ss f.dst.toNat (hear (ss f.dst.toNat) f).1, r ++ (hear (ss f.dst.toNat) f).2) := rfl
  rw [e]
  unfold Ph
  show wts (r ++ (hear (ss f.dst.toNat) f).2) + sE A0 (up ss f.dst.toNat (hear (ss f.dst.toNat) f).1) n + 1 ≤ wts (f :: r) + sE A0 ss n
  rw [wts_app]
  have h1 := hear_wt (ss f.dst.toNat) f
  have h2 := sE_up (Q := A0) (ss := ss) (s' := (hear (ss f.dst.toNat) f).1) (q := f.dst.toNat) rfl (by omega) n (by omega)
  omega
theorem RG.run {n : Nat} {P : Nat → Bool} : ∀ (m : Nat) (R : Nat → Bool) (S : (Nat → Sc) × List Fr), RG n P R S.1 S.2 → Ph n A0 S ≤ m →
    ∃ K R', K ≤ m ∧ (rH A0 S K).2 = [] ∧ (∀ j, j < K → (rH A0 S j).2 ≠ []) ∧ (∀ q, R q = true → R' q = true) ∧ RG n P R' (rH A0 S K).1 [] ∧ (∀ y k, 1 ≤ y → y ≤ n → 1 ≤ k → k ≤ n → y ≠ k → Zk S.1 S.2 y k → Rz ((rH A0 S K).1 y) k) ∧ (∀ q, 1 ≤ q → q ≤ n → Rise (S.1 q).f ((rH A0 S K).1 q).f)
  | m, R, (ss, []), x, h => ⟨0, R, Nat.zero_le _, rfl, fun j hj => by omega, fun _ h => h, x, fun y k _ _ _ _ _ hz => (by
    rcases hz with h | ⟨f, hf, _⟩ | ⟨f, hf, _⟩
    · exact h
    · cases hf
    · cases hf), fun q _ _ => Rise.refl _⟩
  | 0, R, (ss, f :: r), x, h => by
    have hl : Ph n A0 (hr1 A0 (ss, f :: r)) + 1 ≤ Ph n A0 (ss, f :: r) := x.less
    have h' : Ph n A0 (ss, f :: r) ≤ 0 := h
    omega
  | m + 1, R, (ss, f :: r), x, h => by
    have hl : Ph n A0 (hr1 A0 (ss, f :: r)) + 1 ≤ Ph n A0 (ss, f :: r) := x.less
    have h' : Ph n A0 (ss, f :: r) ≤ m + 1 := h
    obtain ⟨R1, u1, x1, z1, r1⟩ := x.step
    obtain ⟨K, R2, k1, k2, k3, k4, k5, k6, k7⟩ := RG.run m R1 (hr1 A0 (ss, f :: r)) x1 (by omega)
    refine ⟨K + 1, R2, by omega, by rw [rH_shift]; exact k2, fun j hj => ?_, fun q hq => k4 q (u1 q hq), by rw [rH_shift]; exact k5, fun y k y1 y2 q1 q2 hyk hz => ?_, fun q q1 q2 => ?_⟩
    · cases j with
      | zero => intro e; cases e
      | succ j => rw [rH_shift]; exact k3 j (by omega)
    · rw [rH_shift]; exact k6 y k y1 y2 q1 q2 hyk (z1 y k y1 y2 q1 q2 hyk hz)
    · rw [rH_shift]; exact (r1 q q1 q2).trans (k7 q q1 q2)
theorem RG.all {n : Nat} {P R : Nat → Bool} {S : (Nat → Sc) × List Fr} (x : RG n P R S.1 S.2) : ∀ k, ∃ R', RG n P R' (rH A0 S k).1 (rH A0 S k).2 ∧ Ph n A0 (rH A0 S k) ≤ Ph n A0 S
  | 0 => ⟨R, x, Nat.le_refl _⟩
  | k + 1 => by
    obtain ⟨R1, h1, h2⟩ := RG.all x k
    show ∃ R', RG n P R' (hr1 A0 (rH A0 S k)).1 (hr1 A0 (rH A0 S k)).2 ∧ Ph n A0 (hr1 A0 (rH A0 S k)) ≤ _
    generalize rH A0 S k = T at *
    obtain ⟨ss, net⟩ := T
    cases net with
    | nil => exact ⟨R1, h1, h2⟩
    | cons f r =>
      have hl : Ph n A0 (hr1 A0 (ss, f :: r)) + 1 ≤ Ph n A0 (ss, f :: r) := h1.less
      obtain ⟨R2, _, x2, _⟩ := h1.step
      exact ⟨R2, x2, by omega⟩
end Go.Proofs.Ytebmgajijjhinaa.SO

/- Words that rise again: rounds, and who returns: on lists. -/
namespace Go.Proofs.Ytebmgajijjhinaa.SO
set_option linter.unusedVariables false
set_option linter.unusedSimpArgs false

theorem learn_now (s : Sc) (m : K.Me) : (learn s m).now = s.now := by unfold learn; split <;> rfl
theorem rum_now (s : Sc) (m : K.Me) : (rum s m).now = s.now := by
  have h1 : (rum1 s m).now = s.now := by unfold rum1; split; exact learn_now _ _; rfl
  have h2 : (rum2 (rum1 s m) m).now = s.now := by unfold rum2; split <;> exact h1
  unfold rum
  split
  · exact h1
  · unfold rum3
    split
    · rw [learn_now]; exact h2
    · exact h2
theorem rums_now : ∀ (l : List K.Me) (s : Sc), (rums s l).now = s.now
  | [], s => rfl
  | m :: r, s => (rums_now r (rum s m)).trans (rum_now s m)
theorem heed_now (s : Sc) (f : Fr) : (heed s f).now = s.now := by unfold heed; split <;> rfl
theorem hear_now (s : Sc) (f : Fr) : (hear s f).1.now = s.now := by
  unfold hear
  split
  · have h : (rums (heed s f) f.rum).now = s.now := (rums_now _ _).trans (heed_now s f)
    split
    · exact h
    · exact (hv_act _ f).now.trans h
  · rfl
theorem rH_now {Q : Nat → Bool} {S : (Nat → Sc) × List Fr} (q : Nat) : ∀ k, ((rH Q S k).1 q).now = (S.1 q).now
  | 0 => rfl
  | k + 1 => by
    refine Eq.trans ?_ (rH_now (Q := Q) (S := S) q k)
    show ((hr1 Q (rH Q S k)).1 q).now = _
    generalize rH Q S k = T
    obtain ⟨ss, net⟩ := T
    cases net with
    | nil => rfl
    | cons f r =>
      unfold hr1
      simp only
      split
      · show (up ss f.dst.toNat (hear (ss f.dst.toNat) f).1 q).now = _
        unfold up
        split
        · rename_i e
          rw [e]; exact hear_now _ _
        · rfl
      · rfl
/-- a camp between rounds -/
def CG (n : Nat) (P R : Nat → Bool) (ss : Nat → Sc) : Prop := ∀ i, 1 ≤ i → i ≤ n → Vg n P R i (ss i) ∧ (isOpen (ss i) = false ∨ (ss i).now.tmod 4 = 0)
/-- while they tick -/
structure TG (n : Nat) (P R : Nat → Bool) (dr : Nat → Int) (ss : Nat → Sc) (k : Nat) (T : (Nat → Sc) × List Fr) : Prop where
  v : ∀ i, 1 ≤ i → i ≤ n → Vg n P R i (T.1 i)
  fr : ∀ f ∈ T.2, ∃ j, 1 ≤ j ∧ j ≤ n ∧ FG n P R j f
  pb : ∀ i, 1 ≤ i → i ≤ k → isOpen (T.1 i) = false ∨ Wit i (T.1 i) T.2
  un : ∀ i, k < i → T.1 i = ss i
  wt : wts T.2 ≤ 8 * k
  se : sE A0 T.1 n = sE A0 ss n
  nw : ∀ i, 1 ≤ i → i ≤ k → (T.1 i).now = (ss i).now + 1
  rs : ∀ i, 1 ≤ i → i ≤ k → Rise (ss i).f (T.1 i).f
  zk : ∀ y j : Nat, 1 ≤ y → y ≤ k → 1 ≤ j → j ≤ n → (Rz (ss y) j ∨ ((ss y).now.tmod 4 = 0 ∧ sought (ask0 (tick0 (ss y))) = some (j : Int))) → Zk T.1 T.2 y j
theorem CG.ticks {n : Nat} {P R : Nat → Bool} {ss : Nat → Sc} (x : CG n P R ss) (dr : Nat → Int) : ∀ k, k ≤ n → TG n P R dr ss k (rT A0 dr (ss, []) k)
  | 0, _ => ⟨fun i i1 i2 => (x i i1 i2).1, fun f hf => (by cases hf), fun i i1 i2 => by omega, fun _ _ => rfl, Nat.le_refl _, rfl, fun i i1 i2 => by omega, fun i i1 i2 => by omega, fun y j y1 y2 => by omega⟩
  | k + 1, hk => by
    have h := CG.ticks x dr k (by omega)
    have e : rT A0 dr (ss, []) (k + 1) = tk1 dr (rT A0 dr (ss, []) k) (k + 1) := rfl
    rw [e]
    have hs := h.un (k + 1) (by omega)
    obtain ⟨v, db⟩ := x (k + 1) (by omega) hk
    generalize rT A0 dr (ss, []) k = T at *
    obtain ⟨tt, net⟩ := T
    simp only at hs
    obtain ⟨t1, t2, t3, t4, t5, t6, tn7, t8⟩ := v.tick db (dr (k + 1))
    have tr := (v.ri.tick (dr (k + 1))).2
    have e2 : tk1 dr (tt, net) (k + 1) = (up tt (k + 1) (tick (ss (k + 1)) (dr (k + 1))).1, net ++ (tick (ss (k + 1)) (dr (k + 1))).2) := by
      unfold tk1
      simp only
      rw [hs]
    rw [e2]
    have hup : up tt (k + 1) (tick (ss (k + 1)) (dr (k + 1))).1 (k + 1) = (tick (ss (k + 1)) (dr (k + 1))).1 := if_pos rfl
    have hun : ∀ q, q ≠ k + 1 → up tt (k + 1) (tick (ss (k + 1)) (dr (k + 1))).1 q = tt q := fun q hq => if_neg hq
    refine ⟨fun i i1 i2 => ?_, fun f hf => ?_, fun i i1 i2 => ?_, fun i hi => ?_, ?_, ?_, fun i i1 i2 => ?_, fun i i1 i2 => ?_, fun y j y1 y2 j1 j2 hz => ?_⟩ <;> (try dsimp only)
    · by_cases ei : i = k + 1
      · subst ei; rw [hup]; exact t1
      · rw [hun i ei]; exact h.v i i1 i2
    · have hf' : f ∈ net ++ (tick (ss (k + 1)) (dr (k + 1))).2 := hf
      rcases List.mem_append.1 hf' with hf | hf
      · exact h.fr f hf
      · exact ⟨k + 1, by omega, hk, t2 f hf⟩
    · by_cases ei : i = k + 1
      · subst ei; rw [hup]
        rcases t4 with t | t
        · exact Or.inl t
        · exact Or.inr (t.mono rfl rfl (fun f hf => List.mem_append_right _ hf))
      · rw [hun i ei]
        rcases h.pb i i1 (by omega) with t | t
        · exact Or.inl t
        · exact Or.inr (t.mono rfl rfl (fun f hf => List.mem_append_left _ hf))
    · rw [hun i (by omega)]; exact h.un i (by omega)
    · rw [wts_app]; have := h.wt; simp only at this; omega
    · rw [sE_same (by rw [hs]; exact t5)]; exact h.se
    · by_cases ei : i = k + 1
      · subst ei; rw [hup]; exact tn7
      · rw [hun i ei]; exact h.nw i i1 (by omega)
    · by_cases ei : i = k + 1
      · subst ei; rw [hup]; exact tr
      · rw [hun i ei]; exact h.rs i i1 (by omega)
    · by_cases ei : y = k + 1
      · subst ei
        rcases hz with hz | ⟨h4, hso⟩
        · left; rw [hup]; exact t3 j hz
        · obtain ⟨g, hg, a, b, c, d⟩ := t8 h4 j hso
          exact Or.inr (Or.inl ⟨g, List.mem_append_right _ hg, a, b, c, d⟩)
      · rcases h.zk y j y1 (by omega) j1 j2 hz with q | ⟨g, hg, q⟩ | ⟨g, hg, q⟩
        · left; rw [hun y ei]; exact q
        · exact Or.inr (Or.inl ⟨g, List.mem_append_left _ hg, q⟩)
        · exact Or.inr (Or.inr ⟨g, List.mem_append_left _ hg, q⟩)
/-- every round goes well -/
theorem CG.round {n : Nat} {P R : Nat → Bool} {ss : Nat → Sc} (h6 : n ≤ 6) (x : CG n P R ss) (dr : Nat → Int) :
    ∃ ss' R', GoodR n A0 dr ss ss' ∧ (∀ i, 1 ≤ i → i ≤ n → Vg n P R' i (ss' i) ∧ isOpen (ss' i) = false ∧ (ss' i).now = (ss i).now + 1 ∧ Rise (ss i).f (ss' i).f) ∧
      ∀ y j : Nat, 1 ≤ y → y ≤ n → 1 ≤ j → j ≤ n → y ≠ j → (Rz (ss y) j ∨ ((ss y).now.tmod 4 = 0 ∧ sought (ask0 (tick0 (ss y))) = some (j : Int))) → Rz (ss' y) j := by
  have t := x.ticks dr n (Nat.le_refl _)
  have g : RG n P R (rT A0 dr (ss, []) n).1 (rT A0 dr (ss, []) n).2 := ⟨t.v, t.fr, t.pb⟩
  have hE := sE_le (Q := A0) (ss := ss) n (fun i i1 i2 hi => (x i i1 i2).1.el)
  have hP : Ph n A0 (rT A0 dr (ss, []) n) ≤ 144 := by
    unfold Ph
    rw [t.se]
    have := t.wt
    omega
  obtain ⟨K, R', k1, k2, k3, k4, k5, k6, k7⟩ := RG.run 144 R (rT A0 dr (ss, []) n) g hP
  have hK : rH A0 (rT A0 dr (ss, []) n) K = ((rH A0 (rT A0 dr (ss, []) n) K).1, []) := Prod.ext rfl k2
  refine ⟨(rH A0 (rT A0 dr (ss, []) n) K).1, R', ⟨fun k hk => ?_, fun k f r hfr => ?_, K, by omega, hK, k3⟩, fun i i1 i2 => ⟨k5.v i i1 i2, ?_, ?_, ?_⟩, fun y j y1 y2 j1 j2 hne hz => k6 y j y1 y2 j1 j2 hne (t.zk y j y1 y2 j1 j2 hz)⟩
  · have := (x.ticks dr k hk).wt
    have := wts_len (rT A0 dr (ss, []) k).2
    omega
  · obtain ⟨R1, g1, g2⟩ := RG.all g k
    rw [hfr] at g1
    obtain ⟨j, j1, j2, hf⟩ := g1.fr f List.mem_cons_self
    refine ⟨⟨hf.d1, hf.d2, by rw [hf.frm]; omega, by rw [hf.frm]; omega, hf.r6, fun m hm => ?_⟩, ?_⟩
    · obtain ⟨q, q1, q2, hw⟩ := hf.rw m hm
      exact hw.good q1 (by omega)
    · have g3 : wts (rH A0 (rT A0 dr (ss, []) n) k).2 ≤ 144 := by unfold Ph at g2 hP; omega
      have g4 := wts_len (rH A0 (rT A0 dr (ss, []) n) k).2
      rw [hfr] at g4 g3
      simp only [List.length_cons] at g4
      have := hear_len ((rH A0 (rT A0 dr (ss, []) n) k).1 f.dst.toNat) f
      omega
  · rcases k5.pb i i1 i2 with h | ⟨f, hf, _⟩
    · exact h
    · cases hf
  · rw [rH_now]; exact t.nw i i1 i2
  · exact (t.rs i i1 i2).trans (k7 i i1 i2)
/-- who is held for gone is sought in time -/
theorem Vg.sought_w {n : Nat} {P R : Nat → Bool} {i w : Nat} {s : Sc} (x : Vg n P R i s) (hP : ∀ k, P k = true → k = w) (w1 : 1 ≤ w) (w2 : w ≤ n) (hf : s.f (w : Int) = some ((w : Int), 0, 2)) (hr : (rnd (tick0 s)).tmod 4 = 0) (hr0 : 0 ≤ rnd (tick0 s)) : SO.sought (ask0 (tick0 s)) = some (w : Int) := by
  have x0 : Vg n P R i (ask0 (tick0 s)) := by
    have h0 : (0 : Int) ≤ 0 ∧ (0 : Int) ≤ n ∧ (0 : Int) ≠ i := by have := x.i1; omega
    exact x.like rfl rfl rfl (x.sy.like rfl rfl) x.ln h0 x.ea x.el
  have hn6 := x.n6
  have habs : isP (ask0 (tick0 s)) (w : Int) = false := by
    cases hh : isP (ask0 (tick0 s)) (w : Int) with
    | false => rfl
    | true =>
      unfold isP at hh
      rw [List.contains_iff_mem, pres_those] at hh
      obtain ⟨j, e, j1, j2, m, hp, hfj, _⟩ := x0.absent hh
      have : j = w := by omega
      subst this
      have hfj' : s.f (j : Int) = some m := hfj
      rw [hf] at hfj'
      rw [← Option.some.inj hfj'] at hp
      unfold K.here at hp
      simp at hp
  have hmem : (w : Int) ∈ those (ask0 (tick0 s)) (fun m => !isP (ask0 (tick0 s)) m.1) := by
    unfold those
    refine List.mem_map.2 ⟨((w : Int), 0, 2), List.mem_filter.2 ⟨?_, ?_⟩, rfl⟩
    · unfold K.all K.allN
      refine List.mem_filterMap.2 ⟨w - 1, List.mem_range.2 (by omega), ?_⟩
      rw [show ((w - 1 : Nat) : Int) + 1 = (w : Int) by omega]
      exact hf
    · show (!isP (ask0 (tick0 s)) (w : Int)) = true
      rw [habs]; rfl
  have hall : ∀ k ∈ those (ask0 (tick0 s)) (fun m => !isP (ask0 (tick0 s)) m.1), k = (w : Int) := fun k hk => by
    obtain ⟨j, rfl, j1, j2, m, hp, hfj, hw⟩ := x0.absent hk
    have hnp : isP (ask0 (tick0 s)) (j : Int) = false := by
      have hp' : (!isP (ask0 (tick0 s)) m.1) = true := hp
      rw [hw.fst] at hp'
      simpa using hp'
    by_cases hj : j = w
    · rw [hj]
    · exfalso
      have hPj : P j = false := by
        cases h : P j with
        | false => rfl
        | true => exact absurd (hP j h) hj
      have hh : K.here m = true := by
        rcases hw with ⟨st, rfl, a, b, c⟩ | ⟨hR, rfl⟩
        · have := c hPj
          subst this; rfl
        · rfl
      rw [x0.there j1 j2 hfj hw.fst hh] at hnp
      cases hnp
  have hlen : 0 < (those (ask0 (tick0 s)) (fun m => !isP (ask0 (tick0 s)) m.1)).length := List.length_pos_of_mem hmem
  unfold SO.sought
  have hr' : (rnd (ask0 (tick0 s))).tmod 4 = 0 := hr
  rw [if_neg (by rw [hr']; decide)]
  have hr0' : 0 ≤ rnd (ask0 (tick0 s)) := hr0
  generalize those (ask0 (tick0 s)) (fun m => !isP (ask0 (tick0 s)) m.1) = L at *
  generalize rnd (ask0 (tick0 s)) = r at *
  have hlt : (((r.tdiv 4).tmod (L.length : Int)).toNat) < L.length := by
    rw [Int.tdiv_eq_ediv_of_nonneg (by omega), Int.tmod_eq_emod_of_nonneg (by omega)]
    have h1 := Int.emod_lt_of_pos (r / 4) (show (0 : Int) < (L.length : Int) by omega)
    have h2 := Int.emod_nonneg (r / 4) (show (L.length : Int) ≠ 0 by omega)
    omega
  rw [List.getElem?_eq_getElem hlt, hall _ (List.getElem_mem hlt)]
end Go.Proofs.Ytebmgajijjhinaa.SO

/- Who returns: on lists. -/
namespace Go.Proofs.Ytebmgajijjhinaa.SO
set_option linter.unusedVariables false
set_option linter.unusedSimpArgs false

theorem Sy.gone : ∀ (ks : List Int) {s : Sc}, Sy s → Sy (gone s ks)
  | [], s, h => h
  | k :: r, s, h => Sy.gone r (h.learn _)
theorem Sy.act {s : Sc} (h : Sy s) (f : Fr) : Sy (SO.act s f).1 := by
  unfold SO.act
  split
  · exact h.tellS _
  · split
    · unfold errand
      split
      · exact Sy.tellS _ (Sy.like h rfl rfl)
      · exact h
    · split
      · have hp : Sy (pHear s f) := h.like (pHear_like s f).2.2.1 (by unfold pHear; split <;> rfl)
        unfold ackE
        split
        · exact Sy.tellS _ (Sy.like hp rfl rfl)
        · exact hp
      · exact h
theorem Vu.sy_rums {n : Nat} {Q : Nat → Bool} {i : Nat} : ∀ (l : List K.Me) {s : Sc}, Vu n Q i s → Sy s → (∀ m ∈ l, QW n Q m) → Sy (SO.rums s l)
  | [], s, x, h, _ => h
  | m :: r, s, x, h, hl => by
    have hm := hl m List.mem_cons_self
    have h1 : Sy (SO.rum s m) := by
      have hne : ¬ (m.1 == s.me) = true := by
        obtain ⟨j, st, h1, h2, h3, rfl, _⟩ := id hm
        rw [x.hme, beq_iff_eq]
        intro e
        have e' : (j : Int) = (i : Int) := e
        have : j = i := by omega
        rw [this, x.qi] at h3; cases h3
      unfold SO.rum
      rw [if_pos (by simp at hne ⊢; exact Or.inl hne)]
      unfold SO.rum1
      split
      · exact h.learn m
      · exact h
    exact Vu.sy_rums r (x.rum hm) h1 (fun y hy => hl y (List.mem_cons_of_mem _ hy))
theorem Vu.sy_hear {n : Nat} {Q : Nat → Bool} {i j : Nat} {s : Sc} (x : Vu n Q i s) (h : Sy s) {f : Fr} (hf : FW n Q j f) (j1 : 1 ≤ j) (j2 : j ≤ n) (hj : Q j = false) : Sy (SO.hear s f).1 := by
  unfold SO.hear
  split
  · rw [x.heed hf j1 j2 hj]
    have y := Vu.rums f.rum x hf.rw
    rw [y.left, if_neg (by decide)]
    exact (x.sy_rums f.rum h hf.rw).act f
  · exact h
theorem Vu.sy_ask {n : Nat} {Q : Nat → Bool} {i : Nat} {s : Sc} (x : Vu n Q i s) (h : Sy s) (d : Int) : Sy (SO.ask s d).1 := by
  have h0 : (0 : Int) ≤ 0 ∧ (0 : Int) ≤ n ∧ (0 : Int) ≠ i := by have := x.i1; omega
  have x0 : Vu n Q i (ask0 s) := x.like rfl rfl rfl x.fw x.ln h0 x.ea x.el
  have s0 : Sy (ask0 s) := h.like rfl rfl
  unfold SO.ask
  split
  · rename_i k hk
    obtain ⟨j, rfl, j1, j2, _⟩ := x0.sought hk
    obtain ⟨st, e, _⟩ := x0.wd j j1 j2
    exact Sy.tellS _ ((s0.remind e rfl).like rfl rfl)
  · split
    · rename_i k s' hx
      obtain ⟨r, rfl, _⟩ := nextL_some hx
      exact Sy.tellS _ (s0.like rfl rfl)
    · rename_i s' hx
      obtain ⟨rfl, _⟩ := nextL_none hx
      exact s0.like rfl rfl
theorem Vu.sy_tick {n : Nat} {Q : Nat → Bool} {i : Nat} {s : Sc} (x : Vu n Q i s) (h : Sy s) (d : Int) : Sy (SO.tick s d).1 := by
  rw [x.tick_eq]
  have s0 : Sy (SO.tick0 s) := h.like rfl rfl
  refine Sy.gone _ ?_
  unfold SO.mid
  split
  · exact x.tick0.sy_ask s0 d
  · split
    · unfold askH
      split
      · exact Sy.tellS _ (Sy.like s0 rfl rfl)
      · exact s0
    · split
      · show Sy (doubt (SO.tick0 s))
        unfold doubt
        split
        · exact s0.learn _
        · exact s0
      · exact s0
theorem RV.sy {n : Nat} {Q : Nat → Bool} {S : (Nat → Sc) × List Fr} (x : RV n Q S.1 S.2) (h : ∀ i, 1 ≤ i → i ≤ n → Q i = false → Sy (S.1 i)) : ∀ k, ∀ i, 1 ≤ i → i ≤ n → Q i = false → Sy ((rH Q S k).1 i)
  | 0 => h
  | k + 1 => fun i i1 i2 hi => by
    have ih := RV.sy x h k
    obtain ⟨h1, _⟩ := RV.all x k
    show Sy ((hr1 Q (rH Q S k)).1 i)
    generalize rH Q S k = T at *
    obtain ⟨ss, net⟩ := T
    cases net with
    | nil => exact ih i i1 i2 hi
    | cons f r =>
      obtain ⟨j, j1, j2, hj, hf⟩ := h1.fr f List.mem_cons_self
      unfold hr1
      simp only
      split
      · by_cases e : i = f.dst.toNat
        · have hu : up ss f.dst.toNat (hear (ss f.dst.toNat) f).1 i = (hear (ss i) f).1 := by rw [← e]; exact if_pos rfl
          show Sy (up ss f.dst.toNat (hear (ss f.dst.toNat) f).1 i)
          rw [hu]
          exact (h1.v i i1 i2 hi).sy_hear (ih i i1 i2 hi) hf j1 j2 hj
        · have hu : up ss f.dst.toNat (hear (ss f.dst.toNat) f).1 i = ss i := if_neg e
          show Sy (up ss f.dst.toNat (hear (ss f.dst.toNat) f).1 i)
          rw [hu]
          exact ih i i1 i2 hi
      · exact ih i i1 i2 hi
/-- a camp where one is silent from the start, after r ticks -/
structure CS (n w r : Nat) (ss : Nat → Sc) : Prop where
  j : CJ n (fun k => k == w) r ss
  s : ∀ i, 1 ≤ i → i ≤ n → i ≠ w → Sy (ss i)
  f : ∀ i, 1 ≤ i → i ≤ n → i ≠ w → Fin r (120 - r) (ss i) w
theorem qw_no {w i : Nat} (h : i ≠ w) : (i == w) = false := by simp [h]
theorem CS.step {n w r : Nat} {ss : Nat → Sc} (h6 : n ≤ 6) (w1 : 1 ≤ w) (w2 : w ≤ n) (hr : r < 120) (x : CS n w r ss) (dr : Nat → Int) : ∃ ss', GoodR n (fun k => k == w) dr ss ss' ∧ CS n w (r + 1) ss' := by
  obtain ⟨ss', g, ci', K, hK⟩ := x.j.ci.round h6 dr
  obtain ⟨t1, _⟩ := x.j.ci.ticks dr n (Nat.le_refl _)
  have hne : ∀ i : Nat, (i == w) = false → i ≠ w := fun i h e => by subst e; simp at h
  refine ⟨ss', g, ⟨ci', fun i i1 i2 hi => ?_⟩, fun i i1 i2 hi => ?_, fun i i1 i2 hi => ?_⟩
  · obtain ⟨v, db⟩ := x.j.ci i i1 i2 hi
    obtain ⟨n1, n2⟩ := x.j.nw i i1 i2 hi
    have hv := x.j.ci.one dr hK i1 i2 hi
    have ht := (v.hw_tick db (dr i)).now
    refine ⟨?_, ?_⟩
    · rw [hv.now, ht]
      show (ss i).now + 1 = _
      rw [n1]; omega
    · rw [hv.line]; exact v.tick_line db (dr i) n2
  · have hs := RV.sy t1 (fun i i1 i2 hi => by
      rw [rT_at n i i1 hi, if_pos i2]
      obtain ⟨v, db⟩ := x.j.ci i i1 i2 hi
      exact v.sy_tick (x.s i i1 i2 (hne i hi)) (dr i)) K i i1 i2 (qw_no hi)
    rw [hK] at hs
    exact hs
  · have hi' := qw_no hi
    obtain ⟨v, db⟩ := x.j.ci i i1 i2 hi'
    obtain ⟨n1, n2⟩ := x.j.nw i i1 i2 hi'
    have hq : (fun k : Nat => k == w) w = true := by simp
    have hf := x.f i i1 i2 hi
    rw [show 120 - r = 120 - (r + 1) + 1 by omega] at hf
    exact Fin.step v db (ci' i i1 i2 hi').1 n1 n2 (dr i) (x.j.ci.one dr hK i1 i2 hi') w1 w2 hq (Ne.symm hi) (fun hp => x.j.ci.pa dr hK i1 i2 hi' (by rw [hp]; exact hq)) hf
theorem sy_new (i n : Nat) : Sy (new i n) := ⟨HU.ok_e0 (by omega), fun k hk => absurd hk (by show ¬ (0 : Int) < 0; omega)⟩
theorem cs_new {n w : Nat} (h6 : n ≤ 6) (w1 : 1 ≤ w) (w2 : w ≤ n) : CS n w 0 (fun i => new i n) := by
  refine ⟨cj_new _ h6, fun i _ _ _ => sy_new i n, fun i i1 i2 hi => ?_⟩
  refine fin_start (vu_new (fun k => k == w) h6 i1 i2 (qw_no hi)) w1 w2 ?_ (Nat.zero_le _) (by omega)
  unfold stt of
  have : (new i n).f (w : Int) = some ((w : Int), 0, 0) := by
    show f0 n w = _
    rw [f0_at n h6, if_pos (by omega)]
  rw [this]; rfl
/-- one has returned t rounds ago -/
def Ret (n w t : Nat) (ss : Nat → Sc) : Prop := ∃ R, CG n (fun k => k == w) R ss ∧ ∀ i, 1 ≤ i → i ≤ n → i ≠ w → (ss i).now = (120 + t : Nat) ∧ Gz (ss i) w ∧ (5 ≤ t → Rz (ss i) w)
theorem CS.ret {n w : Nat} {ss : Nat → Sc} (h6 : n ≤ 6) (w1 : 1 ≤ w) (w2 : w ≤ n) (x : CS n w 120 ss) : Ret n w 0 (up ss w (new w n)) := by
  refine ⟨A0, fun i i1 i2 => ?_, fun i i1 i2 hi => ?_⟩
  · by_cases hi : i = w
    · subst hi
      have hu : up ss i (new i n) i = new i n := if_pos rfl
      rw [hu]
      refine ⟨⟨h6, i1, i2, rfl, rfl, fun k hk => ?_, fun k k1 k2 => ⟨((k : Int), 0, 0), ?_, Or.inl ⟨0, rfl, by omega, by omega, fun _ => rfl⟩⟩, ?_, fun k hk => (by cases hk), sy_new i n, fun k hk => (by cases hk), ?_, fun e he => (by cases he), Nat.zero_le _⟩, Or.inl ?_⟩
      · show f0 n k = none
        rw [f0_at n h6, if_neg hk]
      · show f0 n k = _
        rw [f0_at n h6, if_pos (by omega)]
      · show f0 n i = _
        rw [f0_at n h6, if_pos (by omega)]; rfl
      · show (0 : Int) ≤ 0 ∧ (0 : Int) ≤ n ∧ (0 : Int) ≠ i
        omega
      · unfold isOpen
        simp [new]
    · have hu : up ss w (new w n) i = ss i := if_neg hi
      rw [hu]
      have hi' := qw_no hi
      obtain ⟨v, db⟩ := x.j.ci i i1 i2 hi'
      obtain ⟨n1, n2⟩ := x.j.nw i i1 i2 hi'
      refine ⟨⟨v.n6, v.i1, v.i2, v.hme, v.hn, v.dm, fun k k1 k2 => ?_, ?_, fun k hk => (by cases hk), x.s i i1 i2 hi, v.ln, v.pn, v.ea, v.el⟩, Or.inr ?_⟩
      · obtain ⟨st, e, a, b, c⟩ := v.wd k k1 k2
        exact ⟨_, e, Or.inl ⟨st, rfl, a, b, c⟩⟩
      · obtain ⟨st, e, a, b, c⟩ := v.wd i i1 i2
        rw [e, c hi']; rfl
      · rw [n1]; decide
  · have hu : up ss w (new w n) i = ss i := if_neg hi
    rw [hu]
    have hi' := qw_no hi
    obtain ⟨v, db⟩ := x.j.ci i i1 i2 hi'
    obtain ⟨n1, n2⟩ := x.j.nw i i1 i2 hi'
    refine ⟨by rw [n1], Or.inl ?_, fun h => by omega⟩
    have := (x.f i i1 i2 hi).done
    have a := (v.stt_of w1 w2).1
    rw [this] at a
    exact a
theorem Ret.step {n w t : Nat} {ss : Nat → Sc} (h6 : n ≤ 6) (w1 : 1 ≤ w) (w2 : w ≤ n) (x : Ret n w t ss) (dr : Nat → Int) : ∃ ss', GoodR n A0 dr ss ss' ∧ Ret n w (t + 1) ss' := by
  obtain ⟨R, c, h⟩ := x
  obtain ⟨ss', R', g, v, z⟩ := c.round h6 dr
  refine ⟨ss', g, R', fun i i1 i2 => ⟨(v i i1 i2).1, Or.inl (v i i1 i2).2.1⟩, fun i i1 i2 hi => ?_⟩
  obtain ⟨a1, a2, a3⟩ := h i i1 i2 hi
  obtain ⟨b1, b2, b3, b4⟩ := v i i1 i2
  refine ⟨by rw [b3, a1]; omega, a2.rise b4 b1 w1 w2, fun h5 => ?_⟩
  refine z i w i1 i2 w1 w2 hi ?_
  by_cases ht : 5 ≤ t
  · exact Or.inl (a3 ht)
  · have ht4 : t = 4 := by omega
    subst ht4
    rcases a2 with q | q
    · refine Or.inr ⟨by rw [a1]; decide, ?_⟩
      refine (c i i1 i2).1.sought_w (fun k hk => by simpa using hk) w1 w2 q ?_ ?_
      · unfold rnd
        show (((ss i).now + 1 - 1).tdiv 4 + 1).tmod 4 = 0
        rw [a1]; decide
      · unfold rnd
        show 0 ≤ ((ss i).now + 1 - 1).tdiv 4 + 1
        rw [a1]; decide
    · exact Or.inl q
/-- everybody knows that all are alive, and that it has returned -/
theorem Ret.done {n w t : Nat} {ss : Nat → Sc} (h2 : 2 ≤ n) (w1 : 1 ≤ w) (w2 : w ≤ n) (ht : 5 ≤ t) (x : Ret n w t ss) {i : Nat} (i1 : 1 ≤ i) (i2 : i ≤ n) {m : K.Me} (hm : m ∈ K.all (ss i).f) : ∃ (j : Nat) (inc : Int), 1 ≤ j ∧ j ≤ n ∧ m = ((j : Int), inc, 0) ∧ (j = w → inc = 1) := by
  obtain ⟨R, c, h⟩ := x
  have hRw : R w = true := by
    obtain ⟨y, y1, y2, yw⟩ : ∃ y, 1 ≤ y ∧ y ≤ n ∧ y ≠ w := by
      by_cases hw : w = 1
      · exact ⟨2, by omega, h2, by omega⟩
      · exact ⟨1, by omega, by omega, fun e => hw e.symm⟩
    have hz := (h y y1 y2 yw).2.2 ht
    obtain ⟨m', e, hw⟩ := (c y y1 y2).1.wd w w1 w2
    unfold Rz at hz
    rw [hz] at e
    rcases hw with ⟨st, e2, _⟩ | ⟨q, _⟩
    · rw [e2] at e; cases e
    · exact q
  have v := (c i i1 i2).1
  unfold K.all K.allN at hm
  obtain ⟨q, hq, hf⟩ := List.mem_filterMap.1 hm
  by_cases hr : 1 ≤ ((q : Int) + 1) ∧ ((q : Int) + 1) ≤ n
  · obtain ⟨m', g1, g2⟩ := v.wd (q + 1) (by omega) (by omega)
    have e : (((q + 1 : Nat) : Int)) = (q : Int) + 1 := by omega
    have g1' : (ss i).f ((q : Int) + 1) = some m' := by rw [← e]; exact g1
    rw [g1'] at hf
    cases hf
    by_cases hqw : q + 1 = w
    · refine ⟨w, 1, w1, w2, ?_, fun _ => rfl⟩
      by_cases hi : i = w
      · have ho := v.own
        rw [hi] at ho g1
        rw [hqw] at g1
        rw [g1] at ho
        have := Option.some.inj ho
        rw [this, hRw]; rfl
      · have hz := (h i i1 i2 hi).2.2 ht
        unfold Rz at hz
        rw [hqw] at g1
        rw [g1] at hz
        exact Option.some.inj hz
    · rcases g2 with ⟨st, rfl, a, b, cc⟩ | ⟨q2, rfl⟩
      · have := cc (qw_no hqw)
        subst this
        exact ⟨q + 1, 0, by omega, by omega, rfl, fun h => absurd h hqw⟩
      · have := v.rp _ q2
        rw [qw_no hqw] at this
        cases this
  · rw [v.dm _ hr] at hf; cases hf
end Go.Proofs.Ytebmgajijjhinaa.SO

/- Two sides: each goes as if the other were silent. -/
namespace Go.Proofs.Ytebmgajijjhinaa.SO
set_option linter.unusedVariables false
set_option linter.unusedSimpArgs false

/-- a frame comes, where frames between the two sides are lost -/
def hr2 (sd : Nat → Bool) (S : (Nat → Sc) × List Fr) : (Nat → Sc) × List Fr :=
  match S.2 with
  | [] => S
  | f :: r => if sd f.dst.toNat = sd f.frm.toNat then (up S.1 f.dst.toNat (hear (S.1 f.dst.toNat) f).1, r ++ (hear (S.1 f.dst.toNat) f).2) else (S.1, r)
def rH2 (sd : Nat → Bool) (S : (Nat → Sc) × List Fr) : Nat → (Nat → Sc) × List Fr
  | 0 => S
  | k + 1 => hr2 sd (rH2 sd S k)
/-- who isn't of a side -/
def qs (sd : Nat → Bool) (b : Bool) : Nat → Bool := fun i => !(sd i == b)
def pj (sd : Nat → Bool) (b : Bool) (net : List Fr) : List Fr := net.filter fun f => sd f.frm.toNat == b
/-- one side of two -/
structure Sm (sd : Nat → Bool) (b : Bool) (S T : (Nat → Sc) × List Fr) : Prop where
  ne : T.2 = pj sd b S.2
  sc : ∀ i, sd i = b → T.1 i = S.1 i
theorem pj_all {sd : Nat → Bool} {b : Bool} {l : List Fr} (h : ∀ g ∈ l, sd g.frm.toNat = b) : pj sd b l = l := by
  unfold pj; rw [List.filter_eq_self]; intro g hg; simp [h g hg]
theorem pj_no {sd : Nat → Bool} {b : Bool} {l : List Fr} (h : ∀ g ∈ l, sd g.frm.toNat ≠ b) : pj sd b l = [] := by
  unfold pj; rw [List.filter_eq_nil_iff]; intro g hg; simp [h g hg]
theorem Sm.tick {sd : Nat → Bool} {b : Bool} {S T : (Nat → Sc) × List Fr} (x : Sm sd b S T) (dr : Nat → Int) (i : Nat)
    (ha : ∀ g ∈ (SO.tick (S.1 i) (dr i)).2, g.frm.toNat = i) : Sm sd b (tk1 dr S i) (if qs sd b i = true then T else tk1 dr T i) := by
  obtain ⟨h1, h2⟩ := x
  by_cases e : sd i = b
  · have q : qs sd b i = false := by unfold qs; simp [e]
    rw [q]; simp only [Bool.false_eq_true, if_false]
    refine ⟨?_, fun j hj => ?_⟩
    · show T.2 ++ (SO.tick (T.1 i) (dr i)).2 = pj sd b (S.2 ++ (SO.tick (S.1 i) (dr i)).2)
      rw [h2 i e, h1]
      have := pj_all (sd := sd) (b := b) (l := (SO.tick (S.1 i) (dr i)).2) (fun g hg => by rw [ha g hg]; exact e)
      unfold pj at this ⊢
      rw [List.filter_append, this]
    · show up T.1 i _ j = up S.1 i _ j
      unfold up
      split
      · rw [h2 i e]
      · exact h2 j hj
  · have q : qs sd b i = true := by unfold qs; simp [e]
    rw [q]; simp only [if_true]
    refine ⟨?_, fun j hj => ?_⟩
    · show T.2 = pj sd b (S.2 ++ (SO.tick (S.1 i) (dr i)).2)
      rw [h1]
      have := pj_no (sd := sd) (b := b) (l := (SO.tick (S.1 i) (dr i)).2) (fun g hg => by rw [ha g hg]; exact e)
      unfold pj at this ⊢
      rw [List.filter_append, this, List.append_nil]
    · show T.1 j = up S.1 i _ j
      unfold up
      rw [if_neg (by intro hji; subst hji; exact e hj)]
      exact h2 j hj
theorem Sm.hear {sd : Nat → Bool} {b : Bool} {S T : (Nat → Sc) × List Fr} {f : Fr} {r : List Fr} (x : Sm sd b S T) (hS : S.2 = f :: r)
    (ha : sd f.dst.toNat = sd f.frm.toNat → ∀ g ∈ (SO.hear (S.1 f.dst.toNat) f).2, g.frm = f.dst) :
    Sm sd b (hr2 sd S) (if sd f.frm.toNat = b then hr1 (qs sd b) T else T) := by
  obtain ⟨h1, h2⟩ := x
  obtain ⟨ss, net⟩ := S
  obtain ⟨tt, nt⟩ := T
  simp only at hS h1 h2 ha
  subst hS
  unfold hr2
  simp only
  by_cases e : sd f.frm.toNat = b
  · have hn : nt = f :: pj sd b r := by rw [h1]; unfold pj; rw [List.filter_cons, if_pos (by simp [e])]
    rw [if_pos e]
    subst hn
    unfold hr1
    simp only
    by_cases d : sd f.dst.toNat = b
    · have q1 : (!qs sd b f.dst.toNat && !qs sd b f.frm.toNat) = true := by unfold qs; simp [e, d]
      rw [if_pos q1, if_pos (d.trans e.symm)]
      refine ⟨?_, fun j hj => ?_⟩
      · show pj sd b r ++ _ = pj sd b (r ++ _)
        rw [h2 _ d]
        have := pj_all (sd := sd) (b := b) (l := (SO.hear (ss f.dst.toNat) f).2) (fun g hg => by rw [ha (d.trans e.symm) g hg]; exact d)
        unfold pj at this ⊢
        rw [List.filter_append, this]
      · show up tt _ _ j = up ss _ _ j
        unfold up
        split
        · rw [h2 _ d]
        · exact h2 j hj
    · have q1 : ¬ (!qs sd b f.dst.toNat && !qs sd b f.frm.toNat) = true := by unfold qs; simp [e, d]
      rw [if_neg q1, if_neg (by rw [e]; exact d)]
      exact ⟨rfl, h2⟩
  · have hn : nt = pj sd b r := by rw [h1]; unfold pj; rw [List.filter_cons, if_neg (by simp [e])]
    rw [if_neg e]
    by_cases d : sd f.dst.toNat = sd f.frm.toNat
    · rw [if_pos d]
      refine ⟨?_, fun j hj => ?_⟩
      · show nt = pj sd b (r ++ _)
        rw [hn]
        have := pj_no (sd := sd) (b := b) (l := (SO.hear (ss f.dst.toNat) f).2) (fun g hg => by rw [ha d g hg, d]; exact e)
        unfold pj at this ⊢
        rw [List.filter_append, this, List.append_nil]
      · show tt j = up ss _ _ j
        unfold up
        rw [if_neg (by intro hji; subst hji; exact e (d.symm.trans hj))]
        exact h2 j hj
    · rw [if_neg d]
      exact ⟨hn, h2⟩
end Go.Proofs.Ytebmgajijjhinaa.SO

/- Two sides beside each other: their queue runs empty. -/
namespace Go.Proofs.Ytebmgajijjhinaa.SO
set_option linter.unusedVariables false
set_option linter.unusedSimpArgs false

/-- both sides -/
def Two (n : Nat) (sd : Nat → Bool) (S : (Nat → Sc) × List Fr) (T : Bool → (Nat → Sc) × List Fr) : Prop := ∀ b, Sm sd b S (T b) ∧ RV n (qs sd b) (T b).1 (T b).2
theorem qs_no {sd : Nat → Bool} {b : Bool} {i : Nat} : qs sd b i = false ↔ sd i = b := by unfold qs; simp
theorem Two.head {n : Nat} {sd : Nat → Bool} {S : (Nat → Sc) × List Fr} {T : Bool → (Nat → Sc) × List Fr} (x : Two n sd S T) {f : Fr} {r : List Fr} (hS : S.2 = f :: r) :
    (T (sd f.frm.toNat)).2 = f :: pj sd (sd f.frm.toNat) r ∧ ∃ j : Nat, 1 ≤ j ∧ j ≤ n ∧ f.frm = j ∧ FW n (qs sd (sd f.frm.toNat)) j f := by
  obtain ⟨⟨h1, h2⟩, rv⟩ := x (sd f.frm.toNat)
  have h3 : (T (sd f.frm.toNat)).2 = f :: pj sd (sd f.frm.toNat) r := by
    rw [h1, hS]; unfold pj; rw [List.filter_cons, if_pos (by simp)]
  obtain ⟨j, j1, j2, hj, hf⟩ := rv.fr f (by rw [h3]; exact List.mem_cons_self)
  exact ⟨h3, j, j1, j2, hf.frm, hf⟩
theorem Two.answers {n : Nat} {sd : Nat → Bool} {S : (Nat → Sc) × List Fr} {T : Bool → (Nat → Sc) × List Fr} (x : Two n sd S T) {f : Fr} {r : List Fr} (hS : S.2 = f :: r)
    (hd : sd f.dst.toNat = sd f.frm.toNat) : ∀ g ∈ (SO.hear (S.1 f.dst.toNat) f).2, g.frm = f.dst := by
  obtain ⟨h3, j, j1, j2, hj, hf⟩ := x.head hS
  obtain ⟨⟨h1, h2⟩, rv⟩ := x (sd f.frm.toNat)
  have hd1 := hf.d1
  have hd2 := hf.d2
  have v := rv.v f.dst.toNat (by omega) (by omega) (qs_no.2 hd)
  rw [h2 _ hd] at v
  have hq : qs sd (sd f.frm.toNat) j = false := by
    rw [qs_no]; rw [hj]; rfl
  intro g hg
  have := ((v.hear hf j1 j2 hq).2 g hg).frm
  rw [this]; omega
def adv (sd : Nat → Bool) (f : Fr) (T : Bool → (Nat → Sc) × List Fr) : Bool → (Nat → Sc) × List Fr := fun b => if sd f.frm.toNat = b then hr1 (qs sd b) (T b) else T b
theorem Two.step {n : Nat} {sd : Nat → Bool} {S : (Nat → Sc) × List Fr} {T : Bool → (Nat → Sc) × List Fr} (x : Two n sd S T) {f : Fr} {r : List Fr} (hS : S.2 = f :: r) : Two n sd (hr2 sd S) (adv sd f T) := by
  intro b
  refine ⟨?_, ?_⟩
  · exact (x b).1.hear hS (x.answers hS)
  · unfold adv
    split
    · rename_i e
      obtain ⟨h3, _⟩ := x.head hS
      rw [e] at h3
      have rv := (x b).2
      generalize hT : T b = t at *
      obtain ⟨tt, nt⟩ := t
      simp only at h3
      subst h3
      exact rv.step
    · exact (x b).2
/-- what is left of both -/
def P2 (n : Nat) (sd : Nat → Bool) (T : Bool → (Nat → Sc) × List Fr) : Nat := Ph n (qs sd false) (T false) + Ph n (qs sd true) (T true)
theorem Two.less {n : Nat} {sd : Nat → Bool} {S : (Nat → Sc) × List Fr} {T : Bool → (Nat → Sc) × List Fr} (x : Two n sd S T) {f : Fr} {r : List Fr} (hS : S.2 = f :: r) : P2 n sd (adv sd f T) + 1 ≤ P2 n sd T := by
  obtain ⟨h3, _⟩ := x.head hS
  have rv := (x (sd f.frm.toNat)).2
  have l : Ph n (qs sd (sd f.frm.toNat)) (hr1 (qs sd (sd f.frm.toNat)) (T (sd f.frm.toNat))) + 1 ≤ Ph n (qs sd (sd f.frm.toNat)) (T (sd f.frm.toNat)) := by
    generalize hT : T (sd f.frm.toNat) = t at *
    obtain ⟨tt, nt⟩ := t
    simp only at h3
    subst h3
    exact rv.less
  unfold P2 adv
  cases e : sd f.frm.toNat <;> rw [e] at l <;> simp <;> omega
theorem rH2_from (sd : Nat → Bool) (S : (Nat → Sc) × List Fr) : ∀ k, rH2 sd (hr2 sd S) k = rH2 sd S (k + 1)
  | 0 => rfl
  | k + 1 => by show hr2 sd (rH2 sd (hr2 sd S) k) = hr2 sd (rH2 sd S (k + 1)); rw [rH2_from sd S k]
/-- the queue runs empty -/
theorem Two.run {n : Nat} {sd : Nat → Bool} : ∀ (m : Nat) (S : (Nat → Sc) × List Fr) (T : Bool → (Nat → Sc) × List Fr), Two n sd S T → P2 n sd T ≤ m →
    ∃ K, K ≤ m ∧ (rH2 sd S K).2 = [] ∧ (∀ j, j < K → (rH2 sd S j).2 ≠ []) ∧ ∃ T', Two n sd (rH2 sd S K) T' ∧ ∀ b, ∃ c, T' b = rH (qs sd b) (T b) c
  | m, S, T, x, h => by
    rcases hS : S.2 with _ | ⟨f, r⟩
    · exact ⟨0, Nat.zero_le _, hS, fun j hj => by omega, T, x, fun b => ⟨0, rfl⟩⟩
    · have hl := x.less hS
      match m, h with
      | 0, h => omega
      | m + 1, h =>
        obtain ⟨K, k1, k2, k3, T', k4, k5⟩ := Two.run m (hr2 sd S) (adv sd f T) (x.step hS) (by omega)
        rw [rH2_from] at k2 k4
        refine ⟨K + 1, by omega, k2, fun j hj => ?_, T', k4, fun b => ?_⟩
        · rcases j with _ | j
          · show S.2 ≠ []
            rw [hS]; exact List.cons_ne_nil _ _
          · rw [← rH2_from]; exact k3 j (by omega)
        · obtain ⟨c, hc⟩ := k5 b
          unfold adv at hc
          split at hc
          · refine ⟨c + 1, ?_⟩
            rw [hc]
            have : ∀ (Q : Nat → Bool) (S : (Nat → Sc) × List Fr) k, rH Q (hr1 Q S) k = rH Q S (k + 1) := by
              intro Q S k
              induction k with
              | zero => rfl
              | succ k ih => show hr1 Q (rH Q (hr1 Q S) k) = hr1 Q (rH Q S (k + 1)); rw [ih]
            exact this _ _ _
          · exact ⟨c, hc⟩
end Go.Proofs.Ytebmgajijjhinaa.SO

/- A round of two sides. -/
namespace Go.Proofs.Ytebmgajijjhinaa.SO
set_option linter.unusedVariables false
set_option linter.unusedSimpArgs false

theorem rH_stay {Q : Nat → Bool} {S : (Nat → Sc) × List Fr} {a : Nat} (h : (rH Q S a).2 = []) : ∀ d, rH Q S (a + d) = rH Q S a
  | 0 => rfl
  | d + 1 => by
    have ih := rH_stay h d
    show hr1 Q (rH Q S (a + d)) = _
    rw [ih]
    generalize rH Q S a = t at *
    obtain ⟨tt, nt⟩ := t
    simp only at h
    subst h
    rfl
theorem rH_ends {Q : Nat → Bool} {S : (Nat → Sc) × List Fr} {a b : Nat} (ha : (rH Q S a).2 = []) (hb : (rH Q S b).2 = []) : rH Q S a = rH Q S b := by
  rcases Nat.le_total a b with h | h
  · obtain ⟨d, rfl⟩ := Nat.exists_eq_add_of_le h
    exact (rH_stay ha d).symm
  · obtain ⟨d, rfl⟩ := Nat.exists_eq_add_of_le h
    exact rH_stay hb d
theorem CI.cong {n : Nat} {Q : Nat → Bool} {ss tt : Nat → Sc} (x : CI n Q ss) (h : ∀ i, Q i = false → tt i = ss i) : CI n Q tt := fun i i1 i2 hi => by rw [h i hi]; exact x i i1 i2 hi
theorem CJ.cong {n r : Nat} {Q : Nat → Bool} {ss tt : Nat → Sc} (x : CJ n Q r ss) (h : ∀ i, Q i = false → tt i = ss i) : CJ n Q r tt := ⟨x.ci.cong h, fun i i1 i2 hi => by rw [h i hi]; exact x.nw i i1 i2 hi⟩
/-- all tick -/
theorem Two.ticks {n : Nat} {sd : Nat → Bool} {ss : Nat → Sc} (x : ∀ b, CI n (qs sd b) ss) (dr : Nat → Int) : ∀ k, k ≤ n → Two n sd (rT A0 dr (ss, []) k) (fun b => rT (qs sd b) dr (ss, []) k) ∧ (∀ i, k < i → (rT A0 dr (ss, []) k).1 i = ss i)
  | 0, _ => ⟨fun b => ⟨⟨rfl, fun _ _ => rfl⟩, ((x b).ticks dr 0 (Nat.zero_le _)).1⟩, fun _ _ => rfl⟩
  | k + 1, hk => by
    obtain ⟨h, hu⟩ := Two.ticks x dr k (by omega)
    have e : rT A0 dr (ss, []) (k + 1) = tk1 dr (rT A0 dr (ss, []) k) (k + 1) := rfl
    have hs := hu (k + 1) (by omega)
    refine ⟨fun b => ⟨?_, ((x b).ticks dr (k + 1) hk).1⟩, fun i hi => ?_⟩
    · rw [e]
      refine (h b).1.tick dr (k + 1) fun g hg => ?_
      rw [hs] at hg
      have hq : qs sd (sd (k + 1)) (k + 1) = false := qs_no.2 rfl
      obtain ⟨v, db⟩ := x (sd (k + 1)) (k + 1) (by omega) hk hq
      rw [((v.tick db (dr (k + 1))).2 g hg).frm]
      rfl
    · rw [e]
      show up _ _ _ i = _
      unfold up
      rw [if_neg (by omega)]
      exact hu i (by omega)
theorem pj_len (sd : Nat → Bool) : ∀ l : List Fr, l.length = (pj sd false l).length + (pj sd true l).length
  | [] => rfl
  | f :: r => by
    have ih := pj_len sd r
    unfold pj at ih ⊢
    rw [List.filter_cons, List.filter_cons]
    rcases Bool.eq_false_or_eq_true (sd f.frm.toNat) with e | e
    · rw [if_neg (by simp [e]), if_pos (by simp [e])]
      simp only [List.length_cons]; omega
    · rw [if_pos (by simp [e]), if_neg (by simp [e])]
      simp only [List.length_cons]; omega
theorem Two.len {n : Nat} {sd : Nat → Bool} {S : (Nat → Sc) × List Fr} {T : Bool → (Nat → Sc) × List Fr} (x : Two n sd S T) : S.2.length ≤ P2 n sd T := by
  rw [pj_len sd S.2, ← (x false).1.ne, ← (x true).1.ne]
  have h1 := wts_len (T false).2
  have h2 := wts_len (T true).2
  unfold P2 Ph
  omega
theorem Two.all {n : Nat} {sd : Nat → Bool} {S : (Nat → Sc) × List Fr} {T : Bool → (Nat → Sc) × List Fr} (x : Two n sd S T) : ∀ k, ∃ T', Two n sd (rH2 sd S k) T' ∧ P2 n sd T' ≤ P2 n sd T
  | 0 => ⟨T, x, Nat.le_refl _⟩
  | k + 1 => by
    obtain ⟨T', h1, h2⟩ := Two.all x k
    show ∃ T', Two n sd (hr2 sd (rH2 sd S k)) T' ∧ _
    generalize rH2 sd S k = U at *
    rcases hU : U.2 with _ | ⟨f, r⟩
    · refine ⟨T', ?_, h2⟩
      have : hr2 sd U = U := by unfold hr2; rw [hU]
      rw [this]; exact h1
    · exact ⟨_, h1.step hU, by have := h1.less hU; omega⟩
structure GoodR2 (n : Nat) (sd : Nat → Bool) (dr : Nat → Int) (ss : Nat → Sc) (ss' : Nat → Sc) : Prop where
  t : ∀ k, k ≤ n → (rT A0 dr (ss, []) k).2.length ≤ 1000
  g : ∀ k f r, (rH2 sd (rT A0 dr (ss, []) n) k).2 = f :: r → GoodF n f ∧ r.length + (SO.hear ((rH2 sd (rT A0 dr (ss, []) n) k).1 f.dst.toNat) f).2.length ≤ 1000
  e : ∃ K, K ≤ 500 ∧ rH2 sd (rT A0 dr (ss, []) n) K = (ss', []) ∧ ∀ j, j < K → (rH2 sd (rT A0 dr (ss, []) n) j).2 ≠ []
theorem ph_tick {n : Nat} {Q : Nat → Bool} {ss : Nat → Sc} (h6 : n ≤ 6) (x : CI n Q ss) (dr : Nat → Int) {k : Nat} (hk : k ≤ n) : Ph n Q (rT Q dr (ss, []) k) ≤ 144 := by
  obtain ⟨h1, _, h3, h4⟩ := x.ticks dr k hk
  have hE := sE_le (Q := Q) (ss := ss) n (fun i i1 i2 hi => (x i i1 i2 hi).1.el)
  unfold Ph
  rw [h4]; omega
theorem CJ.step2 {n r : Nat} {sd : Nat → Bool} {ss : Nat → Sc} (h6 : n ≤ 6) (x : ∀ b, CJ n (qs sd b) r ss) (hy : ∀ i, 1 ≤ i → i ≤ n → Sy (ss i)) (dr : Nat → Int) :
    ∃ ss', GoodR2 n sd dr ss ss' ∧ (∀ b, CJ n (qs sd b) (r + 1) ss') ∧ (∀ i, 1 ≤ i → i ≤ n → Sy (ss' i)) ∧
      ∀ b i j B, 1 ≤ i → i ≤ n → qs sd b i = false → 1 ≤ j → j ≤ n → qs sd b j = true → Fin r (B + 1) (ss i) j → Fin (r + 1) B (ss' i) j := by
  have hT : ∀ k, k ≤ n → P2 n sd (fun b => rT (qs sd b) dr (ss, []) k) ≤ 288 := fun k hk => by
    have h1 := ph_tick h6 (x false).ci dr hk
    have h2 := ph_tick h6 (x true).ci dr hk
    show Ph n (qs sd false) (rT (qs sd false) dr (ss, []) k) + Ph n (qs sd true) (rT (qs sd true) dr (ss, []) k) ≤ 288
    omega
  have tw := (Two.ticks (fun b => (x b).ci) dr n (Nat.le_refl _)).1
  obtain ⟨K, k1, k2, k3, T', k4, k5⟩ := Two.run 288 _ _ tw (hT n (Nat.le_refl _))
  have key : ∀ b, ∃ sb, GoodR n (qs sd b) dr ss sb ∧ CJ n (qs sd b) (r + 1) sb ∧ (∀ i, 1 ≤ i → i ≤ n → sd i = b → Sy (sb i)) ∧
      (∀ i j B, 1 ≤ i → i ≤ n → qs sd b i = false → 1 ≤ j → j ≤ n → qs sd b j = true → Fin r (B + 1) (ss i) j → Fin (r + 1) B (sb i) j) ∧ ∀ i, sd i = b → (rH2 sd (rT A0 dr (ss, []) n) K).1 i = sb i := by
    intro b
    obtain ⟨sb, g, c, f⟩ := (x b).step h6 dr
    obtain ⟨Kb, _, hKb, _⟩ := g.e
    refine ⟨sb, g, c, fun i i1 i2 hi => ?_, f, fun i hi => ?_⟩
    · have hs := RV.sy ((x b).ci.ticks dr n (Nat.le_refl _)).1 (fun i i1 i2 hi => by
        rw [rT_at n i i1 hi, if_pos i2]
        obtain ⟨v, db⟩ := (x b).ci i i1 i2 hi
        exact v.sy_tick (hy i i1 i2) (dr i)) Kb i i1 i2 (qs_no.2 hi)
      rw [hKb] at hs
      exact hs
    · obtain ⟨c, hc⟩ := k5 b
      obtain ⟨sm, _⟩ := k4 b
      have he : (T' b).2 = [] := by rw [sm.ne, k2]; rfl
      have e1 : rH (qs sd b) (rT (qs sd b) dr (ss, []) n) c = rH (qs sd b) (rT (qs sd b) dr (ss, []) n) Kb := rH_ends (by rw [← hc]; exact he) (by rw [hKb])
      rw [← sm.sc i hi, hc, e1, hKb]
  refine ⟨(rH2 sd (rT A0 dr (ss, []) n) K).1, ⟨fun k hk => ?_, fun k f r hfr => ?_, K, by omega, Prod.ext rfl k2, k3⟩, fun b => ?_, fun i i1 i2 => ?_, fun b i j B i1 i2 hi j1 j2 hj hf => ?_⟩
  · have := (Two.ticks (fun b => (x b).ci) dr k hk).1.len
    have := hT k hk
    omega
  · obtain ⟨U, u1, u2⟩ := tw.all k
    have hl := u1.len
    have h288 := hT n (Nat.le_refl _)
    rw [hfr] at hl
    simp only [List.length_cons] at hl
    obtain ⟨_, j, j1, j2, hj, hf⟩ := u1.head hfr
    refine ⟨⟨hf.d1, hf.d2, by omega, by omega, hf.r6, fun m hm => (hf.rw m hm).good h6⟩, ?_⟩
    have := hear_len ((rH2 sd (rT A0 dr (ss, []) n) k).1 f.dst.toNat) f
    omega
  · obtain ⟨sb, g, c, sy, f, h⟩ := key b
    exact c.cong fun i hi => h i (qs_no.1 hi)
  · obtain ⟨sb, g, c, sy, f, h⟩ := key (sd i)
    rw [h i rfl]
    exact sy i i1 i2 rfl
  · obtain ⟨sb, g, c, sy, f, h⟩ := key b
    rw [h i (qs_no.1 hi)]
    exact f i j B i1 i2 hi j1 j2 hj hf
end Go.Proofs.Ytebmgajijjhinaa.SO

/- Two sides for 120 ticks: each holds the other for gone. -/
namespace Go.Proofs.Ytebmgajijjhinaa.SO
set_option linter.unusedVariables false
set_option linter.unusedSimpArgs false

structure C2 (n : Nat) (sd : Nat → Bool) (r : Nat) (ss : Nat → Sc) : Prop where
  j : ∀ b, CJ n (qs sd b) r ss
  s : ∀ i, 1 ≤ i → i ≤ n → Sy (ss i)
  f : ∀ i j, 1 ≤ i → i ≤ n → 1 ≤ j → j ≤ n → sd j ≠ sd i → Fin r (120 - r) (ss i) j
theorem qs_yes {sd : Nat → Bool} {b : Bool} {i : Nat} : qs sd b i = true ↔ sd i ≠ b := by unfold qs; simp
theorem c2_new {n : Nat} (sd : Nat → Bool) (h6 : n ≤ 6) : C2 n sd 0 (fun i => new i n) := by
  refine ⟨fun b => cj_new _ h6, fun i _ _ => sy_new i n, fun i j i1 i2 j1 j2 hi => ?_⟩
  refine fin_start (vu_new (qs sd (sd i)) h6 i1 i2 (qs_no.2 rfl)) j1 j2 ?_ (Nat.zero_le _) (by omega)
  unfold stt of
  have : (new i n).f (j : Int) = some ((j : Int), 0, 0) := by
    show f0 n j = _
    rw [f0_at n h6, if_pos (by omega)]
  rw [this]; rfl
theorem C2.step {n r : Nat} {sd : Nat → Bool} {ss : Nat → Sc} (h6 : n ≤ 6) (hr : r < 120) (x : C2 n sd r ss) (dr : Nat → Int) : ∃ ss', GoodR2 n sd dr ss ss' ∧ C2 n sd (r + 1) ss' := by
  obtain ⟨ss', g, c, y, f⟩ := CJ.step2 h6 x.j x.s dr
  refine ⟨ss', g, c, y, fun i j i1 i2 j1 j2 hi => ?_⟩
  have h := x.f i j i1 i2 j1 j2 hi
  rw [show 120 - r = 120 - (r + 1) + 1 by omega] at h
  exact f (sd i) i j _ i1 i2 (qs_no.2 rfl) j1 j2 (qs_yes.2 hi) h
abbrev A1 : Nat → Bool := fun _ => true
/-- all hear of each other again: what each holds then -/
theorem C2.over {n : Nat} {sd : Nat → Bool} {ss : Nat → Sc} (x : C2 n sd 120 ss) :
    CG n A1 A0 ss ∧ (∀ i, 1 ≤ i → i ≤ n → (ss i).now = 120) ∧ ∀ i j : Nat, 1 ≤ i → i ≤ n → 1 ≤ j → j ≤ n → (ss i).f (j : Int) = some ((j : Int), 0, if sd j = sd i then 0 else 2) := by
  have hw : ∀ i j : Nat, 1 ≤ i → i ≤ n → 1 ≤ j → j ≤ n → (ss i).f (j : Int) = some ((j : Int), 0, if sd j = sd i then 0 else 2) := by
    intro i j i1 i2 j1 j2
    obtain ⟨v, _⟩ := (x.j (sd i)).ci i i1 i2 (qs_no.2 rfl)
    by_cases e : sd j = sd i
    · obtain ⟨st, h, a, b, c⟩ := v.wd j j1 j2
      rw [h, c (qs_no.2 e), if_pos e]
    · have h := (x.f i j i1 i2 j1 j2 e).done
      have a := (v.stt_of j1 j2).1
      rw [h] at a
      rw [if_neg e]
      exact a
  refine ⟨fun i i1 i2 => ?_, fun i i1 i2 => ?_, hw⟩
  · obtain ⟨v, db⟩ := (x.j (sd i)).ci i i1 i2 (qs_no.2 rfl)
    obtain ⟨n1, n2⟩ := (x.j (sd i)).nw i i1 i2 (qs_no.2 rfl)
    refine ⟨⟨v.n6, v.i1, v.i2, v.hme, v.hn, v.dm, fun k k1 k2 => ?_, ?_, fun k hk => (by cases hk), x.s i i1 i2, v.ln, v.pn, v.ea, v.el⟩, Or.inr ?_⟩
    · obtain ⟨st, e, a, b, c⟩ := v.wd k k1 k2
      exact ⟨_, e, Or.inl ⟨st, rfl, a, b, fun h => by cases h⟩⟩
    · rw [hw i i i1 i2 i1 i2, if_pos rfl]; rfl
    · rw [n1]; decide
  · obtain ⟨n1, _⟩ := (x.j (sd i)).nw i i1 i2 (qs_no.2 rfl)
    rw [n1]; rfl
end Go.Proofs.Ytebmgajijjhinaa.SO

/- Who holds somebody for gone looks for one of them. -/
namespace Go.Proofs.Ytebmgajijjhinaa.SO
set_option linter.unusedVariables false
set_option linter.unusedSimpArgs false

theorem Vg.sought_some {n : Nat} {P R : Nat → Bool} {i w : Nat} {s : Sc} (x : Vg n P R i s) (w1 : 1 ≤ w) (w2 : w ≤ n) (hf : s.f (w : Int) = some ((w : Int), 0, 2)) (hr : (rnd (tick0 s)).tmod 4 = 0) (hr0 : 0 ≤ rnd (tick0 s)) :
    ∃ j : Nat, SO.sought (ask0 (tick0 s)) = some (j : Int) ∧ 1 ≤ j ∧ j ≤ n ∧ j ≠ i ∧ s.f (j : Int) = some ((j : Int), 0, 2) := by
  have x0 : Vg n P R i (ask0 (tick0 s)) := by
    have h0 : (0 : Int) ≤ 0 ∧ (0 : Int) ≤ n ∧ (0 : Int) ≠ i := by have := x.i1; omega
    exact x.like rfl rfl rfl (x.sy.like rfl rfl) x.ln h0 x.ea x.el
  have hn6 := x.n6
  have habs : isP (ask0 (tick0 s)) (w : Int) = false := by
    cases hh : isP (ask0 (tick0 s)) (w : Int) with
    | false => rfl
    | true =>
      unfold isP at hh
      rw [List.contains_iff_mem, pres_those] at hh
      obtain ⟨j, e, j1, j2, m, hp, hfj, _⟩ := x0.absent hh
      have : j = w := by omega
      subst this
      have hfj' : s.f (j : Int) = some m := hfj
      rw [hf] at hfj'
      rw [← Option.some.inj hfj'] at hp
      unfold K.here at hp
      simp at hp
  have hmem : (w : Int) ∈ those (ask0 (tick0 s)) (fun m => !isP (ask0 (tick0 s)) m.1) := by
    unfold those
    refine List.mem_map.2 ⟨((w : Int), 0, 2), List.mem_filter.2 ⟨?_, ?_⟩, rfl⟩
    · unfold K.all K.allN
      refine List.mem_filterMap.2 ⟨w - 1, List.mem_range.2 (by omega), ?_⟩
      rw [show ((w - 1 : Nat) : Int) + 1 = (w : Int) by omega]
      exact hf
    · show (!isP (ask0 (tick0 s)) (w : Int)) = true
      rw [habs]; rfl
  have hlen := List.length_pos_of_mem hmem
  have hs : ∃ k, SO.sought (ask0 (tick0 s)) = some k := by
    unfold SO.sought
    have hr' : (rnd (ask0 (tick0 s))).tmod 4 = 0 := hr
    rw [if_neg (by simpa using hr')]
    generalize those (ask0 (tick0 s)) (fun m => !isP (ask0 (tick0 s)) m.1) = l at *
    have hq : 0 ≤ (rnd (ask0 (tick0 s))).tdiv 4 := Int.tdiv_nonneg hr0 (by decide)
    have a := Int.tmod_nonneg (l.length : Int) hq
    have b := Int.tmod_lt_of_pos ((rnd (ask0 (tick0 s))).tdiv 4) (b := (l.length : Int)) (by omega)
    exact ⟨_, List.getElem?_eq_getElem (by omega)⟩
  obtain ⟨k, hk⟩ := hs
  obtain ⟨j, rfl, j1, j2, ji, hj⟩ := x0.sought hk
  exact ⟨j, hk, j1, j2, ji, hj⟩
/-- a seeking round: who holds somebody for gone has one more that is renewed -/
theorem CG.seek {n : Nat} {P R : Nat → Bool} {ss : Nat → Sc} (h6 : n ≤ 6) (x : CG n P R ss) (dr : Nat → Int) :
    ∃ ss' R', GoodR n A0 dr ss ss' ∧ CG n P R' ss' ∧ (∀ i, 1 ≤ i → i ≤ n → (ss' i).now = (ss i).now + 1 ∧ Rise (ss i).f (ss' i).f) ∧ (∀ i j : Nat, 1 ≤ i → i ≤ n → 1 ≤ j → j ≤ n → i ≠ j → Rz (ss i) j → Rz (ss' i) j) ∧
      ∀ i w : Nat, 1 ≤ i → i ≤ n → 1 ≤ w → w ≤ n → (ss i).f (w : Int) = some ((w : Int), 0, 2) → (ss i).now.tmod 4 = 0 → (rnd (tick0 (ss i))).tmod 4 = 0 → 0 ≤ rnd (tick0 (ss i)) →
        ∃ j : Nat, 1 ≤ j ∧ j ≤ n ∧ j ≠ i ∧ ¬ Rz (ss i) j ∧ Rz (ss' i) j := by
  obtain ⟨ss', R', g, v, z⟩ := x.round h6 dr
  refine ⟨ss', R', g, fun i i1 i2 => ⟨(v i i1 i2).1, Or.inl (v i i1 i2).2.1⟩, fun i i1 i2 => ⟨(v i i1 i2).2.2.1, (v i i1 i2).2.2.2⟩, fun i j i1 i2 j1 j2 hij h => z i j i1 i2 j1 j2 hij (Or.inl h), fun i w i1 i2 w1 w2 hf h4 hr hr0 => ?_⟩
  obtain ⟨j, hs, j1, j2, ji, hj⟩ := (x i i1 i2).1.sought_some w1 w2 hf hr hr0
  refine ⟨j, j1, j2, ji, fun h => ?_, z i j i1 i2 j1 j2 (Ne.symm ji) (Or.inr ⟨h4, hs⟩)⟩
  unfold Rz at h
  rw [hj] at h
  have := congrArg (fun q : K.Me => q.2.1) (Option.some.inj h)
  simp at this
end Go.Proofs.Ytebmgajijjhinaa.SO

/- What isn't known anywhere isn't told. -/
namespace Go.Proofs.Ytebmgajijjhinaa.SO
set_option linter.unusedVariables false
set_option linter.unusedSimpArgs false

/-- no word in a state of D is known -/
def Cv (D : Int → Bool) (s : Sc) : Prop := ∀ k m, s.f k = some m → D m.2.2 = false
theorem Cv.like {D : Int → Bool} {s s' : Sc} (h : Cv D s) (e : s'.f = s.f) : Cv D s' := fun k m hk => h k m (by rw [← e]; exact hk)
theorem Cv.learn {D : Int → Bool} {s : Sc} (h : Cv D s) {m : K.Me} (hm : D m.2.2 = false) : Cv D (SO.learn s m) := by
  intro k w hw
  unfold SO.learn at hw
  by_cases hn : K.news s.f m = true
  · rw [if_pos hn] at hw
    have hs : K.stp s.f m = fun k => if k = m.1 then some m else s.f k := by unfold K.stp; rw [if_pos hn]
    have hw' : K.stp s.f m k = some w := hw
    rw [hs] at hw'
    have hq : (if k = m.1 then some m else s.f k) = some w := hw'
    by_cases e : k = m.1
    · rw [if_pos e] at hq
      rw [← Option.some.inj hq]; exact hm
    · rw [if_neg e] at hq
      exact h k w hq
  · rw [if_neg hn] at hw
    exact h k w hw
theorem Cv.remind {D : Int → Bool} {s : Sc} (h : Cv D s) (k : Int) : Cv D (SO.remind s k) := h.like rfl
theorem Cv.heed {D : Int → Bool} {s : Sc} (h : Cv D s) (f : Fr) : Cv D (SO.heed s f) := by
  unfold SO.heed; split
  · exact h
  · exact h.remind _
theorem Cv.rum {D : Int → Bool} (h0 : D 0 = false) {s : Sc} (h : Cv D s) {m : K.Me} (hm : D m.2.2 = false) : Cv D (SO.rum s m) := by
  have h1 : Cv D (rum1 s m) := by
    unfold rum1; split
    · exact h.learn hm
    · exact h
  unfold SO.rum
  split
  · exact h1
  · have h2 : Cv D (rum2 (rum1 s m) m) := by
      unfold rum2; split
      · exact h1.remind _
      · exact h1
    unfold rum3; split
    · exact h2.learn h0
    · exact h2
theorem Cv.rums {D : Int → Bool} (h0 : D 0 = false) : ∀ (l : List K.Me) {s : Sc}, Cv D s → (∀ m ∈ l, D m.2.2 = false) → Cv D (SO.rums s l)
  | [], s, h, _ => h
  | m :: r, s, h, hl => Cv.rums h0 r (h.rum h0 (hl m List.mem_cons_self)) fun w hw => hl w (List.mem_cons_of_mem _ hw)
/-- frames that tell no such word -/
def Cn (D : Int → Bool) (l : List Fr) : Prop := ∀ f ∈ l, ∀ m ∈ f.rum, D m.2.2 = false
theorem Cv.told {D : Int → Bool} {s : Sc} (h : Cv D s) (y : Sy s) {c : Nat} {m : K.Me} (hm : m ∈ HU.told s.F c) : D m.2.2 = false := by
  obtain ⟨k, hk, rfl⟩ := told_mem hm
  exact h k _ (y.2 k hk)
theorem Cv.tellL {D : Int → Bool} : ∀ (l : List Fr) {s : Sc}, Cv D s → Sy s → Cn D (SO.tellL s l)
  | [], s, h, y, f, hf => by cases hf
  | x :: r, s, h, y, f, hf => by
    rcases List.mem_cons.1 hf with rfl | hf
    · intro m hm; exact h.told y hm
    · exact Cv.tellL r (s := (tell1 s x).1) (h.like rfl) (y.tell1 x) f hf
theorem Cv.act {D : Int → Bool} {s : Sc} (h : Cv D s) (y : Sy s) (f : Fr) : Cn D (SO.act s f).2 := by
  have none : Cn D [] := fun f hf => by cases hf
  unfold SO.act
  split
  · exact h.tellL _ y
  · split
    · unfold errand; split
      · exact Cv.tellL _ (h.like rfl) (y.like rfl rfl)
      · exact none
    · split
      · have hp : (pHear s f).f = s.f ∧ (pHear s f).F = s.F := by unfold pHear; split <;> exact ⟨rfl, rfl⟩
        unfold ackE; split
        · exact Cv.tellL _ (h.like hp.1) (y.like hp.1 hp.2)
        · exact none
      · exact none
theorem Cv.hear {D : Int → Bool} (h0 : D 0 = false) {s : Sc} (h : Cv D s) {f : Fr} (hf : ∀ m ∈ f.rum, D m.2.2 = false) (y : Sy (SO.rums (SO.heed s f) f.rum)) : Cv D (SO.hear s f).1 ∧ Cn D (SO.hear s f).2 := by
  have none : Cn D [] := fun f hf => by cases hf
  unfold SO.hear
  split
  · have hr := Cv.rums h0 f.rum (h.heed f) hf
    split
    · exact ⟨hr, none⟩
    · exact ⟨hr.like (act_f _ f), hr.act y f⟩
  · exact ⟨h, none⟩
end Go.Proofs.Ytebmgajijjhinaa.SO

/- What isn't known anywhere isn't told: a round. -/
namespace Go.Proofs.Ytebmgajijjhinaa.SO
set_option linter.unusedVariables false
set_option linter.unusedSimpArgs false

theorem Cn.none {D : Int → Bool} : Cn D [] := fun f hf => by cases hf
theorem Cn.app {D : Int → Bool} {a b : List Fr} (x : Cn D a) (y : Cn D b) : Cn D (a ++ b) := fun f hf => by
  rcases List.mem_append.1 hf with h | h
  · exact x f h
  · exact y f h
theorem Cv.ask {D : Int → Bool} {n : Nat} {P R : Nat → Bool} {i : Nat} {s : Sc} (x : Vg n P R i s) (h : Cv D s) (d : Int) : Cn D (SO.ask s d).2 := by
  have h0 : (0 : Int) ≤ 0 ∧ (0 : Int) ≤ n ∧ (0 : Int) ≠ i := by have := x.i1; omega
  have x0 : Vg n P R i (ask0 s) := x.like rfl rfl rfl (x.sy.like rfl rfl) x.ln h0 x.ea x.el
  unfold SO.ask
  split
  · rename_i k hk
    obtain ⟨j, rfl, j1, j2, hji, hfj⟩ := x0.sought hk
    exact Cv.tellL _ (h.like rfl) ((x0.remind j1 j2).sy.like rfl rfl)
  · split
    · rename_i k s' hx
      obtain ⟨r, rfl, _⟩ := nextL_some hx
      exact Cv.tellL _ (h.like rfl) (x.sy.like rfl rfl)
    · exact Cn.none
theorem Cv.tick {D : Int → Bool} (h1 : D 1 = true) {n : Nat} {P R : Nat → Bool} {i : Nat} {s : Sc} (x : Vg n P R i s) (hd : isOpen s = false ∨ s.now.tmod 4 = 0) (h : Cv D s) (d : Int) : Cv D (SO.tick s d).1 ∧ Cn D (SO.tick s d).2 := by
  have x0 : Vg n P R i (tick0 s) := x.like rfl rfl rfl (x.sy.like rfl rfl) x.ln x.pn x.ea x.el
  have hc0 : Cv D (tick0 s) := h.like rfl
  have e1 : (SO.tick0 s).now - 1 = s.now := by show s.now + 1 - 1 = s.now; omega
  have key : Cv D (mid (tick0 s) d).1 ∧ Cn D (mid (tick0 s) d).2 := by
    unfold SO.mid
    rw [e1]
    by_cases h4 : s.now.tmod 4 = 0
    · rw [if_pos h4]
      exact ⟨hc0.like (x0.ask d).2.2.1, hc0.ask x0 d⟩
    · rw [if_neg h4]
      have ho : isOpen (tick0 s) = false := by
        rcases hd with h | h
        · exact h
        · exact absurd h h4
      have hA : askH (tick0 s) = (tick0 s, []) := by unfold askH; rw [ho]; rfl
      have hD : doubt (tick0 s) = tick0 s := by unfold doubt; rw [ho]; rfl
      split
      · rw [hA]; exact ⟨hc0, Cn.none⟩
      · split
        · rw [hD]; exact ⟨hc0, Cn.none⟩
        · exact ⟨hc0, Cn.none⟩
  obtain ⟨k1, k2⟩ := key
  have hov : SO.over (mid (tick0 s) d).1 = (mid (tick0 s) d).1 := by
    have hn : those (mid (tick0 s) d).1 (overdue (mid (tick0 s) d).1) = [] := by
      unfold those
      rw [List.map_eq_nil_iff, List.filter_eq_nil_iff]
      intro m hm ho
      unfold K.all K.allN at hm
      obtain ⟨q, _, hf⟩ := List.mem_filterMap.1 hm
      have hz := k1 _ m hf
      unfold overdue at ho
      rw [Bool.and_eq_true, beq_iff_eq] at ho
      rw [ho.1, h1] at hz
      cases hz
    unfold SO.over
    rw [hn]; rfl
  unfold SO.tick
  rw [x0.left, if_neg (by decide), hov]
  exact ⟨k1, k2⟩
/-- nobody knows or tells such a word -/
def Cl (D : Int → Bool) (n : Nat) (S : (Nat → Sc) × List Fr) : Prop := (∀ i, 1 ≤ i → i ≤ n → Cv D (S.1 i)) ∧ Cn D S.2
theorem Cl.ticks {D : Int → Bool} (h1 : D 1 = true) {n : Nat} {P R : Nat → Bool} {ss : Nat → Sc} (x : CG n P R ss) (h : ∀ i, 1 ≤ i → i ≤ n → Cv D (ss i)) (dr : Nat → Int) : ∀ k, k ≤ n → Cl D n (rT A0 dr (ss, []) k)
  | 0, _ => ⟨h, Cn.none⟩
  | k + 1, hk => by
    have ih := Cl.ticks h1 x h dr k (by omega)
    have t := x.ticks dr k (by omega)
    have e : rT A0 dr (ss, []) (k + 1) = tk1 dr (rT A0 dr (ss, []) k) (k + 1) := rfl
    rw [e]
    have hs := t.un (k + 1) (by omega)
    obtain ⟨v, db⟩ := x (k + 1) (by omega) hk
    obtain ⟨a, b⟩ := Cv.tick h1 v db (h (k + 1) (by omega) hk) (dr (k + 1))
    unfold tk1
    rw [hs]
    refine ⟨fun i i1 i2 => ?_, ih.2.app b⟩
    show Cv D (up _ (k + 1) _ i)
    unfold up
    split
    · exact a
    · exact ih.1 i i1 i2
theorem Cl.step {D : Int → Bool} (h0 : D 0 = false) {n : Nat} {P R : Nat → Bool} {S : (Nat → Sc) × List Fr} (x : RG n P R S.1 S.2) (h : Cl D n S) : Cl D n (hr1 A0 S) := by
  obtain ⟨ss, net⟩ := S
  cases net with
  | nil => exact h
  | cons f r =>
    obtain ⟨h2, h3⟩ := h
    obtain ⟨j, j1, j2, hf⟩ := x.fr f List.mem_cons_self
    have hd1 := hf.d1
    have hd2 := hf.d2
    have e : hr1 A0 (ss, f :: r) = (up ss f.dst.toNat (hear (ss f.dst.toNat) f).1, r ++ (hear (ss f.dst.toNat) f).2) := rfl
    rw [e]
    have i1 : 1 ≤ f.dst.toNat := by omega
    have i2 : f.dst.toNat ≤ n := by omega
    have xi := x.v _ i1 i2
    have ci := h2 _ i1 i2
    have hr : Cn D r := fun g hg => h3 g (List.mem_cons_of_mem _ hg)
    obtain ⟨a, b⟩ : Cv D (hear (ss f.dst.toNat) f).1 ∧ Cn D (hear (ss f.dst.toNat) f).2 := by
      obtain ⟨xh, _⟩ := xi.heed hf j1 j2
      obtain ⟨R', u, y, _⟩ := Vg.rums f.rum xh hf.rw
      exact ci.hear h0 (fun m hm => h3 f List.mem_cons_self m hm) y.sy
    refine ⟨fun i q1 q2 => ?_, hr.app b⟩
    show Cv D (up ss _ _ i)
    unfold up
    split
    · exact a
    · exact h2 i q1 q2
theorem Cl.run {D : Int → Bool} (h0 : D 0 = false) {n : Nat} {P R : Nat → Bool} {S : (Nat → Sc) × List Fr} (x : RG n P R S.1 S.2) (h : Cl D n S) : ∀ k, Cl D n (rH A0 S k)
  | 0 => h
  | k + 1 => by
    obtain ⟨R1, g1, _⟩ := RG.all x k
    exact Cl.step h0 g1 (Cl.run h0 x h k)
theorem CG.clear {D : Int → Bool} (h0 : D 0 = false) (h1 : D 1 = true) {n : Nat} {P R : Nat → Bool} {ss ss' : Nat → Sc} (x : CG n P R ss) (h : ∀ i, 1 ≤ i → i ≤ n → Cv D (ss i)) {dr : Nat → Int} (g : GoodR n A0 dr ss ss') : ∀ i, 1 ≤ i → i ≤ n → Cv D (ss' i) := by
  obtain ⟨K, _, hK, _⟩ := g.e
  have t := x.ticks dr n (Nat.le_refl _)
  have rg : RG n P R (rT A0 dr (ss, []) n).1 (rT A0 dr (ss, []) n).2 := ⟨t.v, t.fr, t.pb⟩
  have := (Cl.run h0 rg (Cl.ticks h1 x h dr n (Nat.le_refl _)) K).1
  rw [hK] at this
  exact this
end Go.Proofs.Ytebmgajijjhinaa.SO

/- Two sides that hear of each other again: 400 rounds. -/
namespace Go.Proofs.Ytebmgajijjhinaa.SO
set_option linter.unusedVariables false
set_option linter.unusedSimpArgs false

def su (g : Nat → Nat) : Nat → Nat
  | 0 => 0
  | k + 1 => su g k + g (k + 1)
theorem su_le {g g' : Nat → Nat} : ∀ n, (∀ i, 1 ≤ i → i ≤ n → g' i ≤ g i) → su g' n ≤ su g n
  | 0, _ => Nat.le_refl _
  | n + 1, h => by
    have a := su_le n (fun i i1 i2 => h i i1 (by omega))
    have b := h (n + 1) (by omega) (Nat.le_refl _)
    show su g' n + g' (n + 1) ≤ su g n + g (n + 1)
    omega
theorem su_lt {g g' : Nat → Nat} : ∀ n, (∀ i, 1 ≤ i → i ≤ n → g' i ≤ g i) → (∃ i, 1 ≤ i ∧ i ≤ n ∧ g' i + 1 ≤ g i) → su g' n + 1 ≤ su g n
  | 0, _, ⟨i, h1, h2, _⟩ => by omega
  | n + 1, h, ⟨i, i1, i2, hi⟩ => by
    show su g' n + g' (n + 1) + 1 ≤ su g n + g (n + 1)
    have b := h (n + 1) (by omega) (Nat.le_refl _)
    by_cases e : i = n + 1
    · subst e
      have a := su_le n (fun i i1 i2 => h i i1 (by omega))
      omega
    · have a := su_lt n (fun i i1 i2 => h i i1 (by omega)) ⟨i, i1, by omega, hi⟩
      omega
theorem su_max {g : Nat → Nat} {c : Nat} : ∀ n, (∀ i, 1 ≤ i → i ≤ n → g i ≤ c) → su g n ≤ n * c
  | 0, _ => Nat.zero_le _
  | n + 1, h => by
    have a := su_max n (fun i i1 i2 => h i i1 (by omega))
    have b := h (n + 1) (by omega) (Nat.le_refl _)
    show su g n + g (n + 1) ≤ (n + 1) * c
    rw [Nat.succ_mul]
    omega
theorem su_zero {g : Nat → Nat} : ∀ n, su g n = 0 → ∀ i, 1 ≤ i → i ≤ n → g i = 0
  | 0, _, i, h1, h2 => by omega
  | n + 1, h, i, i1, i2 => by
    have h' : su g n + g (n + 1) = 0 := h
    by_cases e : i = n + 1
    · subst e; omega
    · exact su_zero n (by omega) i i1 (by omega)
/-- it isn't known to have risen -/
def nz (s : Sc) (i j : Nat) : Nat := if j = i ∨ s.f (j : Int) = some ((j : Int), 1, 0) then 0 else 1
def nzs (n : Nat) (s : Sc) (i : Nat) : Nat := su (nz s i) n
def nza (n : Nat) (ss : Nat → Sc) : Nat := su (fun i => nzs n (ss i) i) n
theorem nz_le {s s' : Sc} {i j : Nat} (h : j ≠ i → Rz s j → Rz s' j) : nz s' i j ≤ nz s i j := by
  unfold nz
  by_cases e : j = i
  · rw [if_pos (Or.inl e)]; exact Nat.zero_le _
  · by_cases hz : s.f (j : Int) = some ((j : Int), 1, 0)
    · rw [if_pos (Or.inr (show s'.f (j : Int) = some ((j : Int), 1, 0) from h e hz))]; exact Nat.zero_le _
    · rw [if_neg (c := j = i ∨ s.f (j : Int) = _) (by rintro (a | a); exact e a; exact hz a)]
      split <;> omega
theorem nz_one {s : Sc} {i j : Nat} (e : j ≠ i) (h : ¬ Rz s j) : nz s i j = 1 := by
  unfold nz
  rw [if_neg (by rintro (a | a); exact e a; exact h a)]
theorem nz_zero {s : Sc} {i j : Nat} (h : j = i ∨ Rz s j) : nz s i j = 0 := by
  unfold nz; exact if_pos h
/-- who knows that one other has risen, and itself -/
theorem nzs_two {n i j : Nat} {s : Sc} (i1 : 1 ≤ i) (i2 : i ≤ n) (j1 : 1 ≤ j) (j2 : j ≤ n) (ji : j ≠ i) (h : Rz s j) : nzs n s i + 2 ≤ n := by
  have h1 : ∀ k, nz s i k ≤ 1 := fun k => by unfold nz; split <;> omega
  have a : su (fun _ => 1) n = n := by
    have : ∀ m, su (fun _ => 1) m = m := fun m => by
      induction m with
      | zero => rfl
      | succ m ih => show su (fun _ => 1) m + 1 = m + 1; rw [ih]
    exact this n
  have b : su (fun k => if k = i then 0 else 1) n + 1 ≤ su (fun _ => 1) n := su_lt n (fun k _ _ => by split <;> omega) ⟨i, i1, i2, by simp⟩
  have c : nzs n s i + 1 ≤ su (fun k => if k = i then 0 else 1) n := su_lt n (fun k _ _ => by
      by_cases e : k = i
      · rw [nz_zero (Or.inl e)]; omega
      · rw [if_neg e]; exact h1 k) ⟨j, j1, j2, by
      rw [nz_zero (Or.inr h), if_neg ji]; decide⟩
  omega
def D1 : Int → Bool := fun k => k == 1
def D2 : Int → Bool := fun k => (k == 1) || (k == 2)
/-- seeking rounds that are over, t rounds behind the 120th -/
abbrev qo (t : Nat) : Nat := (t + 11) / 16
/-- a camp whose two sides hear of each other again, after t rounds -/
structure Hl (n t : Nat) (ss : Nat → Sc) : Prop where
  cg : ∃ R, CG n A1 R ss
  nw : ∀ i, 1 ≤ i → i ≤ n → (ss i).now = 120 + t
  c1 : ∀ i, 1 ≤ i → i ≤ n → Cv D1 (ss i)
  st : (∀ i, 1 ≤ i → i ≤ n → Cv D2 (ss i)) ∨ (1 ≤ qo t ∧ nza n ss + qo t ≤ 25) ∨ (t ≤ 4 ∧ ∀ i, 1 ≤ i → i ≤ n → ∃ j, 1 ≤ j ∧ j ≤ n ∧ j ≠ i ∧ Gz (ss i) j)
theorem Vg.alive {n : Nat} {P R : Nat → Bool} {i : Nat} {s : Sc} (x : Vg n P R i s) {k : Int} {m : K.Me} (h : s.f k = some m) : ∃ j : Nat, k = j ∧ 1 ≤ j ∧ j ≤ n ∧ WW P R j m := by
  by_cases hr : 1 ≤ k ∧ k ≤ n
  · obtain ⟨m', e, hw⟩ := x.wd k.toNat (by omega) (by omega)
    have ek : ((k.toNat : Nat) : Int) = k := by omega
    rw [ek, h] at e
    refine ⟨k.toNat, ek.symm, by omega, by omega, ?_⟩
    rw [Option.some.inj e]; exact hw
  · rw [x.dm k hr] at h; cases h
/-- nobody is held for gone -/
theorem Vg.clean {n : Nat} {P R : Nat → Bool} {i : Nat} {s : Sc} (x : Vg n P R i s) (c : Cv D1 s) (h : ∀ w : Nat, 1 ≤ w → w ≤ n → s.f (w : Int) ≠ some ((w : Int), 0, 2)) : Cv D2 s := by
  intro k m hk
  obtain ⟨j, rfl, j1, j2, hw⟩ := x.alive hk
  have h1 := c _ m hk
  rcases hw with ⟨st, rfl, a, b, _⟩ | ⟨_, rfl⟩
  · have h2 := h j j1 j2
    rw [hk] at h2
    have : st ≠ 1 := by intro e; subst e; revert h1; simp [D1]
    have : st ≠ 2 := by intro e; subst e; exact h2 rfl
    have : st = 0 := by omega
    subst this; rfl
  · rfl
theorem Hl.start {n : Nat} {sd : Nat → Bool} {ss : Nat → Sc} (x : C2 n sd 120 ss) : Hl n 0 ss := by
  obtain ⟨cg, nw, hw⟩ := x.over
  have c1 : ∀ i, 1 ≤ i → i ≤ n → Cv D1 (ss i) := fun i i1 i2 k m hk => by
    obtain ⟨j, rfl, j1, j2, _⟩ := (cg i i1 i2).1.alive hk
    rw [hw i j i1 i2 j1 j2] at hk
    rw [← Option.some.inj hk]
    simp only
    split <;> rfl
  refine ⟨⟨_, cg⟩, fun i i1 i2 => by rw [nw i i1 i2]; rfl, c1, ?_⟩
  by_cases h : ∃ a b, 1 ≤ a ∧ a ≤ n ∧ 1 ≤ b ∧ b ≤ n ∧ sd a ≠ sd b
  · obtain ⟨a, b, a1, a2, b1, b2, hab⟩ := h
    refine Or.inr (Or.inr ⟨by omega, fun i i1 i2 => ?_⟩)
    obtain ⟨j, j1, j2, hj⟩ : ∃ j, 1 ≤ j ∧ j ≤ n ∧ sd j ≠ sd i := by
      by_cases e : sd a = sd i
      · exact ⟨b, b1, b2, fun e2 => hab (e.trans e2.symm)⟩
      · exact ⟨a, a1, a2, e⟩
    refine ⟨j, j1, j2, fun e => hj (by rw [e]), Or.inl ?_⟩
    rw [hw i j i1 i2 j1 j2, if_neg hj]
  · refine Or.inl fun i i1 i2 => (cg i i1 i2).1.clean (c1 i i1 i2) fun w w1 w2 => ?_
    have e : sd w = sd i := by
      cases hh : decide (sd w = sd i) with
      | true => exact of_decide_eq_true hh
      | false => exact absurd ⟨w, i, w1, w2, i1, i2, of_decide_eq_false hh⟩ h
    rw [hw i w i1 i2 w1 w2, if_pos e]
    intro hc
    have := congrArg (fun q : K.Me => q.2.2) (Option.some.inj hc)
    simp at this
theorem Hl.step {n t : Nat} {ss : Nat → Sc} (h6 : n ≤ 6) (x : Hl n t ss) (dr : Nat → Int) : ∃ ss', GoodR n A0 dr ss ss' ∧ Hl n (t + 1) ss' := by
  obtain ⟨⟨R, cg⟩, nw, c1, st⟩ := x
  obtain ⟨ss', R', g, cg', hr, hz, hs⟩ := cg.seek h6 dr
  refine ⟨ss', g, ⟨R', cg'⟩, fun i i1 i2 => by rw [(hr i i1 i2).1, nw i i1 i2]; omega, cg.clear rfl rfl c1 g, ?_⟩
  rcases st with h | ⟨q1, q2⟩ | ⟨t4, hg⟩
  · exact Or.inl (cg.clear rfl rfl h g)
  · have hle : ∀ i, 1 ≤ i → i ≤ n → nzs n (ss' i) i ≤ nzs n (ss i) i := fun i i1 i2 => su_le n fun j j1 j2 => nz_le fun hne h => hz i j i1 i2 j1 j2 (Ne.symm hne) h
    by_cases h4 : t % 16 = 4
    · by_cases hw : ∃ i w : Nat, 1 ≤ i ∧ i ≤ n ∧ 1 ≤ w ∧ w ≤ n ∧ (ss i).f (w : Int) = some ((w : Int), 0, 2)
      · obtain ⟨i, w, i1, i2, w1, w2, hf⟩ := hw
        have hn := nw i i1 i2
        have e1 : (tick0 (ss i)).now - 1 = (120 + t : Nat) := by show (ss i).now + 1 - 1 = _; rw [hn]; omega
        have er : rnd (tick0 (ss i)) = ((120 + t) / 4 + 1 : Nat) := by
          unfold rnd
          rw [e1, Int.tdiv_eq_ediv_of_nonneg (by omega)]
          omega
        obtain ⟨j, j1, j2, ji, n1, n2⟩ := hs i w i1 i2 w1 w2 hf (by rw [hn, Int.tmod_eq_emod_of_nonneg (by omega)]; omega) (by rw [er, Int.tmod_eq_emod_of_nonneg (by omega)]; omega) (by rw [er]; omega)
        have hlt : nza n ss' + 1 ≤ nza n ss := su_lt n hle ⟨i, i1, i2, su_lt n (fun j j1 j2 => nz_le fun hne h => hz i j i1 i2 j1 j2 (Ne.symm hne) h) ⟨j, j1, j2, by rw [nz_one ji n1, nz_zero (Or.inr n2)]; omega⟩⟩
        exact Or.inr (Or.inl ⟨by unfold qo at *; omega, by unfold qo at *; omega⟩)
      · refine Or.inl (cg.clear rfl rfl (fun i i1 i2 => (cg i i1 i2).1.clean (c1 i i1 i2) fun w w1 w2 hf => hw ⟨i, w, i1, i2, w1, w2, hf⟩) g)
    · have := su_le n hle
      have : nza n ss' ≤ nza n ss := this
      exact Or.inr (Or.inl ⟨by unfold qo at *; omega, by unfold qo at *; omega⟩)
  · by_cases e4 : t = 4
    · subst e4
      refine Or.inr (Or.inl ⟨by unfold qo; omega, ?_⟩)
      have hb : ∀ i, 1 ≤ i → i ≤ n → nzs n (ss' i) i ≤ n - 2 := fun i i1 i2 => by
        have hn := nw i i1 i2
        obtain ⟨j, j1, j2, ji, hj⟩ := hg i i1 i2
        obtain ⟨k, k1, k2, ki, hk⟩ : ∃ k, 1 ≤ k ∧ k ≤ n ∧ k ≠ i ∧ Rz (ss' i) k := by
          rcases hj with hj | hj
          · have e1 : (tick0 (ss i)).now - 1 = 124 := by show (ss i).now + 1 - 1 = _; rw [hn]; rfl
            have er : rnd (tick0 (ss i)) = 32 := by unfold rnd; rw [e1]; rfl
            obtain ⟨k, k1, k2, ki, _, n2⟩ := hs i j i1 i2 j1 j2 hj (by rw [hn]; rfl) (by rw [er]; rfl) (by rw [er]; decide)
            exact ⟨k, k1, k2, ki, n2⟩
          · exact ⟨j, j1, j2, ji, hz i j i1 i2 j1 j2 (Ne.symm ji) hj⟩
        have := nzs_two i1 i2 k1 k2 ki hk
        omega
      have hm : nza n ss' ≤ n * (n - 2) := su_max n hb
      have h24 : n * (n - 2) ≤ 24 := by
        match n, h6 with
        | 0, _ => decide
        | 1, _ => decide
        | 2, _ => decide
        | 3, _ => decide
        | 4, _ => decide
        | 5, _ => decide
        | 6, _ => decide
        | n + 7, h => omega
      unfold qo; omega
    · refine Or.inr (Or.inr ⟨by omega, fun i i1 i2 => ?_⟩)
      obtain ⟨j, j1, j2, ji, hj⟩ := hg i i1 i2
      exact ⟨j, j1, j2, ji, hj.rise (hr i i1 i2).2 (cg' i i1 i2).1 j1 j2⟩
/-- everybody knows that all are alive -/
theorem Hl.done {n : Nat} {ss : Nat → Sc} (x : Hl n 400 ss) : ∀ i, 1 ≤ i → i ≤ n → Cv D2 (ss i) := by
  obtain ⟨⟨R, cg⟩, nw, c1, st⟩ := x
  rcases st with h | ⟨q1, q2⟩ | ⟨t4, _⟩
  · exact h
  · intro i i1 i2
    refine (cg i i1 i2).1.clean (c1 i i1 i2) fun w w1 w2 hf => ?_
    have h0 : nza n ss = 0 := by unfold qo at q2; omega
    have h1 := su_zero n h0 i i1 i2
    have h2 := su_zero n h1 w w1 w2
    have wi : w ≠ i := fun e => by
      have ho := (cg i i1 i2).1.own
      rw [e] at hf
      rw [hf] at ho
      have := congrArg (fun q : K.Me => q.2.2) (Option.some.inj ho)
      simp at this
    have hz : Rz (ss i) w := by
      show (ss i).f (w : Int) = some ((w : Int), 1, 0)
      cases hh : decide ((ss i).f (w : Int) = some ((w : Int), 1, 0)) with
      | true => exact of_decide_eq_true hh
      | false =>
        have hnr : ¬ Rz (ss i) w := fun e => of_decide_eq_false hh e
        have := nz_one wi hnr
        omega
    unfold Rz at hz
    rw [hf] at hz
    have := congrArg (fun q : K.Me => q.2.1) (Option.some.inj hz)
    simp at this
  · omega
theorem Hl.told {n : Nat} {ss : Nat → Sc} (x : Hl n 400 ss) {i : Nat} (i1 : 1 ≤ i) (i2 : i ≤ n) {m : K.Me} (h : m ∈ K.all (ss i).f) : ∃ (j : Nat) (inc : Int), 1 ≤ j ∧ j ≤ n ∧ m = ((j : Int), inc, 0) ∧ 0 ≤ inc ∧ inc ≤ 1 := by
  have c := x.done i i1 i2
  obtain ⟨⟨R, cg⟩, _⟩ := x
  unfold K.all K.allN at h
  obtain ⟨q, _, hf⟩ := List.mem_filterMap.1 h
  have hd := c _ m hf
  obtain ⟨j, _, j1, j2, hw⟩ := (cg i i1 i2).1.alive hf
  rcases hw with ⟨st, rfl, a, b, _⟩ | ⟨_, rfl⟩
  · have : st ≠ 1 := by intro e; subst e; revert hd; simp [D2]
    have : st ≠ 2 := by intro e; subst e; revert hd; simp [D2]
    have : st = 0 := by omega
    subst this
    exact ⟨j, 0, j1, j2, rfl, by omega, by omega⟩
  · exact ⟨j, 1, j1, j2, rfl, by omega, by omega⟩
/-- all n are there -/
theorem Hl.pres {n : Nat} {ss : Nat → Sc} (h6 : n ≤ 6) (x : Hl n 400 ss) {i : Nat} (i1 : 1 ≤ i) (i2 : i ≤ n) : (K.pres (ss i).f).length = n := by
  have c := x.done i i1 i2
  have told := fun m hm => x.told i1 i2 (m := m) hm
  obtain ⟨⟨R, cg⟩, _⟩ := x
  have v := (cg i i1 i2).1
  have hp : K.pres (ss i).f = (K.all (ss i).f).map (·.1) := by
    rw [pres_those]
    unfold those
    congr 1
    rw [List.filter_eq_self]
    intro m hm
    obtain ⟨j, inc, _, _, rfl, _⟩ := told m hm
    rfl
  rw [hp, List.length_map]
  have key : ∀ k, k ≤ 6 → (K.allN (ss i).f k).length = min k n := fun k hk => by
    induction k with
    | zero => simp [K.allN]
    | succ k ih =>
      have ih := ih (by omega)
      unfold K.allN at ih ⊢
      rw [List.range_succ, List.filterMap_append, List.length_append, ih]
      by_cases hkn : k + 1 ≤ n
      · obtain ⟨m, e, _⟩ := v.wd (k + 1) (by omega) hkn
        have e' : (ss i).f ((k : Int) + 1) = some m := by rw [← e]; rfl
        simp [e']
        omega
      · have := v.dm ((k : Int) + 1) (by omega)
        simp [this]
        omega
  have := key 6 (Nat.le_refl _)
  unfold K.all
  omega
end Go.Proofs.Ytebmgajijjhinaa.SO

/- The rounds of both times as one. -/
namespace Go.Proofs.Ytebmgajijjhinaa.SO
set_option linter.unusedVariables false
set_option linter.unusedSimpArgs false

/-- a frame comes, if it may -/
def hp1 (p : Nat → Nat → Bool) (S : (Nat → Sc) × List Fr) : (Nat → Sc) × List Fr :=
  match S.2 with
  | [] => S
  | f :: r => if p f.dst.toNat f.frm.toNat = true then (up S.1 f.dst.toNat (hear (S.1 f.dst.toNat) f).1, r ++ (hear (S.1 f.dst.toNat) f).2) else (S.1, r)
def rP (p : Nat → Nat → Bool) (S : (Nat → Sc) × List Fr) : Nat → (Nat → Sc) × List Fr
  | 0 => S
  | k + 1 => hp1 p (rP p S k)
structure GoodP (n : Nat) (p : Nat → Nat → Bool) (dr : Nat → Int) (ss : Nat → Sc) (ss' : Nat → Sc) : Prop where
  t : ∀ k, k ≤ n → (rT A0 dr (ss, []) k).2.length ≤ 1000
  g : ∀ k f r, (rP p (rT A0 dr (ss, []) n) k).2 = f :: r → GoodF n f ∧ r.length + (SO.hear ((rP p (rT A0 dr (ss, []) n) k).1 f.dst.toNat) f).2.length ≤ 1000
  e : ∃ K, K ≤ 500 ∧ rP p (rT A0 dr (ss, []) n) K = (ss', []) ∧ ∀ j, j < K → (rP p (rT A0 dr (ss, []) n) j).2 ≠ []
/-- who hears whom in the i-th round -/
def pa (sd : Nat → Bool) (i : Nat) : Nat → Nat → Bool := fun a b => decide (120 ≤ i) || (sd a == sd b)
theorem hp1_one {sd : Nat → Bool} {i : Nat} (h : i < 120) (S : (Nat → Sc) × List Fr) : hp1 (pa sd i) S = hr2 sd S := by
  obtain ⟨ss, net⟩ := S
  cases net with
  | nil => rfl
  | cons f r =>
    have e : (pa sd i f.dst.toNat f.frm.toNat = true) = (sd f.dst.toNat = sd f.frm.toNat) := by
      unfold pa
      rw [decide_eq_false (by omega)]
      simp
    unfold hp1 hr2
    simp only [e]
theorem hp1_two {sd : Nat → Bool} {i : Nat} (h : 120 ≤ i) (S : (Nat → Sc) × List Fr) : hp1 (pa sd i) S = hr1 A0 S := by
  obtain ⟨ss, net⟩ := S
  cases net with
  | nil => rfl
  | cons f r =>
    have e : pa sd i f.dst.toNat f.frm.toNat = true := by
      unfold pa
      rw [decide_eq_true h]; rfl
    unfold hp1 hr1
    simp only [e]
    rfl
theorem rP_one {sd : Nat → Bool} {i : Nat} (h : i < 120) (S : (Nat → Sc) × List Fr) : ∀ k, rP (pa sd i) S k = rH2 sd S k
  | 0 => rfl
  | k + 1 => by
    show hp1 (pa sd i) (rP (pa sd i) S k) = hr2 sd (rH2 sd S k)
    rw [rP_one h S k, hp1_one h]
theorem rP_two {sd : Nat → Bool} {i : Nat} (h : 120 ≤ i) (S : (Nat → Sc) × List Fr) : ∀ k, rP (pa sd i) S k = rH A0 S k
  | 0 => rfl
  | k + 1 => by
    show hp1 (pa sd i) (rP (pa sd i) S k) = hr1 A0 (rH A0 S k)
    rw [rP_two h S k, hp1_two h]
theorem GoodR2.gp {n : Nat} {sd : Nat → Bool} {i : Nat} (h : i < 120) {dr : Nat → Int} {ss ss' : Nat → Sc} (x : GoodR2 n sd dr ss ss') : GoodP n (pa sd i) dr ss ss' := by
  obtain ⟨t, g, e⟩ := x
  refine ⟨t, ?_, ?_⟩
  · intro k; rw [rP_one h]; exact g k
  · obtain ⟨K, k1, k2, k3⟩ := e
    exact ⟨K, k1, by rw [rP_one h]; exact k2, fun j hj => by rw [rP_one h]; exact k3 j hj⟩
theorem GoodR.gp {n : Nat} {sd : Nat → Bool} {i : Nat} (h : 120 ≤ i) {dr : Nat → Int} {ss ss' : Nat → Sc} (x : GoodR n A0 dr ss ss') : GoodP n (pa sd i) dr ss ss' := by
  obtain ⟨t, g, e⟩ := x
  refine ⟨t, ?_, ?_⟩
  · intro k; rw [rP_two h]; exact g k
  · obtain ⟨K, k1, k2, k3⟩ := e
    exact ⟨K, k1, by rw [rP_two h]; exact k2, fun j hj => by rw [rP_two h]; exact k3 j hj⟩
/-- the camp behind i rounds -/
def HR (n : Nat) (sd : Nat → Bool) (i : Nat) (ss : Nat → Sc) : Prop := (i ≤ 120 ∧ C2 n sd i ss) ∨ (120 ≤ i ∧ Hl n (i - 120) ss)
theorem hr_new {n : Nat} (sd : Nat → Bool) (h6 : n ≤ 6) : HR n sd 0 (fun i => new i n) := Or.inl ⟨by omega, c2_new sd h6⟩
theorem HR.step {n i : Nat} {sd : Nat → Bool} {ss : Nat → Sc} (h6 : n ≤ 6) (x : HR n sd i ss) (dr : Nat → Int) : ∃ ss', GoodP n (pa sd i) dr ss ss' ∧ HR n sd (i + 1) ss' := by
  have two : 120 ≤ i → Hl n (i - 120) ss → ∃ ss', GoodP n (pa sd i) dr ss ss' ∧ HR n sd (i + 1) ss' := fun h y => by
    obtain ⟨ss', g, z⟩ := y.step h6 dr
    refine ⟨ss', g.gp h, Or.inr ⟨by omega, ?_⟩⟩
    rw [show i + 1 - 120 = i - 120 + 1 by omega]; exact z
  rcases x with ⟨h, y⟩ | ⟨h, y⟩
  · by_cases e : i < 120
    · obtain ⟨ss', g, z⟩ := y.step h6 e dr
      exact ⟨ss', g.gp e, Or.inl ⟨by omega, z⟩⟩
    · have e' : i = 120 := by omega
      subst e'
      exact two (Nat.le_refl _) (Hl.start y)
  · exact two h y
/-- in the end all are alive, and known so -/
theorem HR.told {n : Nat} {sd : Nat → Bool} {ss : Nat → Sc} (x : HR n sd 520 ss) {i : Nat} (i1 : 1 ≤ i) (i2 : i ≤ n) {m : K.Me} (h : m ∈ K.all (ss i).f) : ∃ (j : Nat) (inc : Int), 1 ≤ j ∧ j ≤ n ∧ m = ((j : Int), inc, 0) ∧ 0 ≤ inc ∧ inc ≤ 1 := by
  rcases x with ⟨h', _⟩ | ⟨_, y⟩
  · omega
  · exact Hl.told y i1 i2 h
theorem HR.pres {n : Nat} {sd : Nat → Bool} {ss : Nat → Sc} (h6 : n ≤ 6) (x : HR n sd 520 ss) {i : Nat} (i1 : 1 ≤ i) (i2 : i ≤ n) : (K.pres (ss i).f).length = n := by
  rcases x with ⟨h', _⟩ | ⟨_, y⟩
  · omega
  · exact Hl.pres h6 y i1 i2
end Go.Proofs.Ytebmgajijjhinaa.SO
