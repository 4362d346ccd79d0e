/- The texts SoPT SoPN SoPR SoPA So23 So24 So25 as one. -/
import Derived.Test.YtfpjknfgiciokaaSoMath
import Derived.Test.YtfpjknfgiciokaaSo2x
/- Everybody is asked in turn: on lists. -/
namespace Go.Proofs.Ytfpjknfgiciokaa.SO
set_option linter.unusedVariables false
set_option linter.unusedSimpArgs false

theorem f0_at : ∀ (n : Nat), n ≤ 6 → ∀ k : Int, f0 n k = if 1 ≤ k ∧ k ≤ n then some (k, 0, 0) else none
  | 0, _, k => by rw [if_neg (by omega)]; rfl
  | n + 1, h, k => by
    have ih := f0_at n (by omega)
    rw [f0_succ]
    have hn : K.news (f0 n) ((n : Int) + 1, 0, 0) = true := by
      unfold K.news
      have g : K.good ((n : Int) + 1, 0, 0) = true := by
        rw [K.good_iff]; unfold K.Good
        refine ⟨?_, ?_, ?_, ?_, ?_, ?_⟩ <;> (dsimp only; omega)
      rw [g]
      simp only [ih, Bool.true_and]
      rw [if_neg (by omega)]
    unfold K.stp
    rw [if_pos hn]
    simp only [ih]
    by_cases e : k = (n : Int) + 1
    · rw [if_pos e, if_pos (by omega), e]
    · rw [if_neg e]
      by_cases h1 : 1 ≤ k ∧ k ≤ (n : Int)
      · rw [if_pos h1, if_pos (by omega)]
      · rw [if_neg h1, if_neg (by omega)]
theorem cases6 {n : Nat} (h : n ≤ 6) : n = 0 ∨ n = 1 ∨ n = 2 ∨ n = 3 ∨ n = 4 ∨ n = 5 ∨ n = 6 := by omega
def upto (n : Nat) : List Int := (List.range n).map fun (i : Nat) => (i : Int) + 1
theorem mem_upto {n : Nat} {k : Int} : k ∈ upto n ↔ 1 ≤ k ∧ k ≤ n := by
  unfold upto
  rw [List.mem_map]
  constructor
  · rintro ⟨i, hi, rfl⟩; have := List.mem_range.1 hi; omega
  · intro h; exact ⟨(k - 1).toNat, List.mem_range.2 (by omega), by omega⟩
theorem pres_f0 {n : Nat} (h : n ≤ 6) : K.pres (f0 n) = upto n := by
  rcases cases6 h with rfl | rfl | rfl | rfl | rfl | rfl | rfl <;> decide
theorem all_f0 {n : Nat} (h : n ≤ 6) : K.all (f0 n) = (upto n).map fun k => (k, 0, 0) := by
  rcases cases6 h with rfl | rfl | rfl | rfl | rfl | rfl | rfl <;> decide
theorem upto_nodup {n : Nat} (h : n ≤ 6) : (upto n).Nodup := by
  rcases cases6 h with rfl | rfl | rfl | rfl | rfl | rfl | rfl <;> decide
/-- the others -/
def oth0 (me : Int) (n : Nat) : List Int := (upto n).filter (fun k => !(k == me))
theorem mem_oth0 {me : Int} {n : Nat} {k : Int} : k ∈ oth0 me n ↔ (1 ≤ k ∧ k ≤ n) ∧ k ≠ me := by
  unfold oth0
  rw [List.mem_filter, mem_upto]
  simp
theorem oth0_nodup (me : Int) {n : Nat} (h : n ≤ 6) : (oth0 me n).Nodup := (upto_nodup h).filter _
theorem oth0_len {me : Int} {n : Nat} (h : n ≤ 6) (h1 : 1 ≤ me) (h2 : me ≤ n) : (oth0 me n).length = n - 1 := by
  have hm : me = 1 ∨ me = 2 ∨ me = 3 ∨ me = 4 ∨ me = 5 ∨ me = 6 := by omega
  rcases cases6 h with rfl | rfl | rfl | rfl | rfl | rfl | rfl <;> rcases hm with rfl | rfl | rfl | rfl | rfl | rfl <;> first | decide | omega

/-- all are alive and nothing is told on -/
structure Calm (me : Int) (n : Nat) (s : Sc) : Prop where
  n6 : n ≤ 6
  hme : s.me = me
  m1 : 1 ≤ me
  m2 : me ≤ n
  hn : s.n = n
  f : s.f = f0 n
  F : s.F = HU.e0
  er : s.er = []
  ln : ∀ k ∈ s.line, k ∈ oth0 me n
theorem Calm.of {me : Int} {n : Nat} {s : Sc} (c : Calm me n s) {k : Int} (h : 1 ≤ k ∧ k ≤ n) : of s k = (k, 0, 0) := by
  unfold SO.of
  rw [c.f, f0_at n c.n6, if_pos h]; rfl
theorem Calm.left {me : Int} {n : Nat} {s : Sc} (c : Calm me n s) : left s = false := by
  unfold SO.left
  rw [c.hme, c.of ⟨c.m1, c.m2⟩]; rfl
theorem Calm.over {me : Int} {n : Nat} {s : Sc} (c : Calm me n s) : over s = s := by
  have h : those s (overdue s) = [] := by
    unfold those
    rw [c.f, all_f0 c.n6, List.map_eq_nil_iff, List.filter_eq_nil_iff]
    intro m hm
    obtain ⟨k, hk, rfl⟩ := List.mem_map.1 hm
    simp [overdue]
  unfold SO.over
  rw [h]; rfl
theorem Calm.isP {me : Int} {n : Nat} {s : Sc} (c : Calm me n s) {k : Int} (h : 1 ≤ k ∧ k ≤ n) : isP s k = true := by
  unfold SO.isP
  rw [c.f, pres_f0 c.n6, List.contains_iff_mem, mem_upto]; exact h
theorem Calm.sought {me : Int} {n : Nat} {s : Sc} (c : Calm me n s) : sought s = none := by
  have h : those s (fun m => !SO.isP s m.1) = [] := by
    unfold those
    rw [List.map_eq_nil_iff, List.filter_eq_nil_iff]
    intro m hm
    rw [c.f, all_f0 c.n6] at hm
    obtain ⟨k, hk, rfl⟩ := List.mem_map.1 hm
    rw [c.isP (mem_upto.1 hk)]; decide
  unfold SO.sought
  rw [h]
  split <;> rfl
theorem Calm.oth {me : Int} {n : Nat} {s : Sc} (c : Calm me n s) : oth s = oth0 me n := by
  unfold SO.oth oth0
  rw [c.f, pres_f0 c.n6, c.hme]
theorem swp_perm {l : List Int} {i j : Nat} (hi : i < l.length) (hj : j < l.length) : (swp l i j).Perm l := by
  unfold swp
  rw [show l.getD j 0 = l[j] by simp [List.getD, hj], show l.getD i 0 = l[i] by simp [List.getD, hi]]
  exact List.set_set_perm hi hj
theorem mixN_perm : ∀ (i : Nat) (l : List Int) (d : Int), i < l.length ∨ i = 0 → (mixN i l d).Perm l
  | 0, l, d, _ => List.Perm.refl _
  | i + 1, l, d, h => by
    have h' : i + 1 < l.length := by omega
    have hj : (d % ((i : Int) + 2)).toNat < l.length := by
      have h1 := Int.emod_nonneg d (show ((i : Int) + 2) ≠ 0 by omega)
      have h2 := Int.emod_lt_of_pos d (show (0 : Int) < (i : Int) + 2 by omega)
      omega
    have hs := swp_perm (l := l) (i := i + 1) (j := (d % ((i : Int) + 2)).toNat) h' hj
    exact (mixN_perm i _ _ (by rw [hs.length_eq]; omega)).trans hs
theorem mix_perm (l : List Int) (d : Int) : (mix l d).Perm l := mixN_perm _ l d (by omega)
theorem tell1_e0 {s : Sc} (h : s.F = HU.e0) (x : Fr) : tell1 s x = (s, { x with frm := s.me, rum := [] }) := by
  have h1 : HU.took s.F (HU.cnt s.F 6) = s.F := by
    funext i
    unfold HU.took
    rw [if_neg]
    unfold HU.inT
    rw [h, HU.tl_e0]; simp
  have h2 : HU.told s.F (HU.cnt s.F 6) = [] := by
    unfold HU.told
    rw [h, HU.tl_e0]; simp
  unfold tell1
  rw [h1, h2]
theorem tellS_e0 {s : Sc} (h : s.F = HU.e0) (x : Fr) : tellS s [x] = s := by
  show (tell1 s x).1 = s
  rw [tell1_e0 h]
theorem tellL_e0 {s : Sc} (h : s.F = HU.e0) (x : Fr) : tellL s [x] = [{ x with frm := s.me, rum := [] }] := by
  show [(tell1 s x).2] = _
  rw [tell1_e0 h]
theorem Calm.tick0 {me : Int} {n : Nat} {s : Sc} (c : Calm me n s) : Calm me n (tick0 s) := ⟨c.n6, c.hme, c.m1, c.m2, c.hn, c.f, c.F, c.er, c.ln⟩
theorem Calm.ask1 {me : Int} {n : Nat} {s : Sc} (c : Calm me n s) {r : List Int} (hr : ∀ k ∈ r, k ∈ oth0 me n) (k : Int) : Calm me n (ask1 { ask0 s with line := r } k) := ⟨c.n6, c.hme, c.m1, c.m2, c.hn, c.f, c.F, c.er, hr⟩
theorem Calm.ask0 {me : Int} {n : Nat} {s : Sc} (c : Calm me n s) : Calm me n (ask0 s) := ⟨c.n6, c.hme, c.m1, c.m2, c.hn, c.f, c.F, c.er, c.ln⟩
theorem Calm.nextL {me : Int} {n : Nat} {s : Sc} (c : Calm me n s) (h2 : 2 ≤ n) (d : Int) : ∃ x r, nextL s d = (some x, { s with line := r }) ∧ (s.line = x :: r ∨ s.line = [] ∧ (x :: r).Perm (oth0 me n)) ∧ x ∈ oth0 me n ∧ ∀ k ∈ r, k ∈ oth0 me n := by
  unfold SO.nextL
  cases hl : s.line with
  | cons x r =>
    have hx := c.ln x (by rw [hl]; exact List.mem_cons_self)
    have hd : (x :: r).dropWhile (fun k => !SO.isP s k) = x :: r := by
      rw [List.dropWhile_cons, if_neg]
      rw [c.isP (mem_oth0.1 hx).1]; decide
    rw [hd]
    exact ⟨x, r, rfl, Or.inl rfl, hx, fun k hk => c.ln k (by rw [hl]; exact List.mem_cons_of_mem _ hk)⟩
  | nil =>
    rw [List.dropWhile_nil]
    have hp := mix_perm (SO.oth s) d
    rw [c.oth] at hp ⊢
    have hlen := oth0_len c.n6 c.m1 c.m2
    cases hm : mix (oth0 me n) d with
    | nil => rw [hm] at hp; have := hp.length_eq; simp at this; omega
    | cons x r =>
      rw [hm] at hp
      exact ⟨x, r, rfl, Or.inr ⟨rfl, hp⟩, hp.mem_iff.1 List.mem_cons_self, fun k hk => hp.mem_iff.1 (List.mem_cons_of_mem _ hk)⟩
theorem Calm.tick_ask {me : Int} {n : Nat} {s : Sc} (c : Calm me n s) (h2 : 2 ≤ n) (d : Int) (h4 : s.now.tmod 4 = 0) : ∃ x r, (s.line = x :: r ∨ s.line = [] ∧ (x :: r).Perm (oth0 me n)) ∧ x ∈ oth0 me n ∧ (tick s d).2 = [⟨x, 1, me, s.seq + 1, 0, []⟩] ∧ Calm me n (tick s d).1 ∧ (tick s d).1.line = r ∧ (tick s d).1.pn = x ∧ (tick s d).1.ps = s.seq + 1 ∧ (tick s d).1.now = s.now + 1 := by
  have c1 := c.tick0
  have c2 := c1.ask0
  obtain ⟨x, r, hn, hl, hx, hr⟩ := c2.nextL h2 d
  have c3 : Calm me n (SO.ask1 { SO.ask0 (SO.tick0 s) with line := r } x) := c1.ask1 hr x
  have hm : mid (SO.tick0 s) d = (SO.ask1 { SO.ask0 (SO.tick0 s) with line := r } x, [⟨x, 1, me, s.seq + 1, 0, []⟩]) := by
    unfold mid
    have e : (SO.tick0 s).now - 1 = s.now := by show s.now + 1 - 1 = _; omega
    rw [e, if_pos h4]
    unfold ask
    rw [c2.sought]
    simp only [hn]
    rw [tellS_e0 c3.F, tellL_e0 c3.F]
    have := c3.hme
    rw [this]; rfl
  have ht : tick s d = (SO.ask1 { SO.ask0 (SO.tick0 s) with line := r } x, [⟨x, 1, me, s.seq + 1, 0, []⟩]) := by
    unfold tick
    rw [c1.left, if_neg (by decide), hm]
    simp only [c3.over]
  rw [ht]
  exact ⟨x, r, hl, hx, rfl, c3, rfl, rfl, rfl, rfl⟩
theorem Calm.pa {me : Int} {n : Nat} {s : Sc} (c : Calm me n s) : Calm me n { s with pa := true } := ⟨c.n6, c.hme, c.m1, c.m2, c.hn, c.f, c.F, c.er, c.ln⟩
theorem Calm.hear {me : Int} {n : Nat} {s : Sc} (c : Calm me n s) {x q dst : Int} (hx : x ∈ oth0 me n) (h1 : s.pn = x) (h2 : s.ps = q) : hear s ⟨dst, 2, x, q, x, []⟩ = ({ s with pa := true }, []) := by
  have hx' := mem_oth0.1 hx
  have ho : other s x = true := by
    unfold other
    rw [c.hn, c.hme]
    simp [hx'.1.1, hx'.1.2, hx'.2]
  have hh : heed s ⟨dst, 2, x, q, x, []⟩ = s := by
    unfold heed
    rw [c.of hx'.1]; rfl
  have hp : pHear s ⟨dst, 2, x, q, x, []⟩ = { s with pa := true } := by
    unfold pHear
    rw [h1, h2]; simp
  unfold SO.hear
  rw [hh, if_pos ho]
  show (if SO.left s = true then _ else _) = _
  rw [c.left, if_neg (by decide)]
  unfold act
  rw [if_neg (show ¬ (2 : Int) = 1 by decide), if_neg (show ¬ (2 : Int) = 3 by decide), if_pos rfl]
  show ackE (pHear s _) _ = _
  rw [hp]
  unfold ackE
  rw [show ({ s with pa := true } : Sc).er = [] from c.er]
  rfl
theorem Calm.tick_rest {me : Int} {n : Nat} {s : Sc} (c : Calm me n s) (hp : s.pa = true) (d : Int) (h4 : s.now.tmod 4 ≠ 0) : tick s d = (SO.tick0 s, []) := by
  have c1 := c.tick0
  have ho : isOpen (SO.tick0 s) = false := by
    unfold isOpen
    rw [show (SO.tick0 s).pa = true from hp]; simp
  have hm : mid (SO.tick0 s) d = (SO.tick0 s, []) := by
    unfold mid
    have e : (SO.tick0 s).now - 1 = s.now := by show s.now + 1 - 1 = _; omega
    rw [e, if_neg h4]
    split
    · unfold askH; rw [ho]; rfl
    · split
      · unfold doubt; rw [ho]; rfl
      · rfl
  unfold tick
  rw [c1.left, if_neg (by decide), hm]
  simp only [c1.over]
theorem calm_new {me : Int} {n : Nat} (h : n ≤ 6) (h1 : 1 ≤ me) (h2 : me ≤ n) : Calm me n (new me n) := ⟨h, rfl, h1, h2, rfl, rfl, rfl, rfl, fun k hk => by cases hk⟩
end Go.Proofs.Ytfpjknfgiciokaa.SO

/- Where a turn stands, on lists. -/
namespace Go.Proofs.Ytfpjknfgiciokaa
set_option linter.unusedVariables false
set_option linter.unusedSimpArgs false

/-- where a turn stands -/
structure Tn (me : Int) (n : Nat) (s : SO.Sc) (tt k i : Nat) (seen : List Int) : Prop where
  c : SO.Calm me n s
  n2 : 2 ≤ n
  now : s.now = tt
  m : tt % 4 = i % 4
  ls : (k = 0 ∧ i = 0 ∧ s.line = [] ∧ seen = []) ∨ ∃ P : List Int, P.Perm (SO.oth0 me n) ∧ s.line = P.drop (if i = 0 then k else k + 1) ∧ seen = P.take (if i = 0 then k else k + 1) ∧ 1 ≤ (if i = 0 then k else k + 1)
  pa : i ≠ 0 → s.pa = true
theorem tmod4 {tt : Nat} {s : SO.Sc} (h : s.now = tt) : s.now.tmod 4 = ((tt % 4 : Nat) : Int) := by
  rw [h, Int.tmod_eq_emod_of_nonneg (by omega)]; omega
theorem Tn.ask {me : Int} {n : Nat} {s : SO.Sc} {tt k : Nat} {seen : List Int} (h : Tn me n s tt k 0 seen) (hk : k + 1 < n) (d : Int) : ∃ x sq, (SO.tick s d).2 = [⟨x, 1, me, sq, 0, []⟩] ∧ sq = s.seq + 1 ∧ 1 ≤ x ∧ x ≤ n ∧ x ≠ me ∧ seen.contains x = false ∧ Tn me n (SO.hear (SO.tick s d).1 ⟨0, 2, x, sq, x, []⟩).1 (tt + 1) k 1 (seen ++ [x]) := by
  have h4 : s.now.tmod 4 = 0 := by rw [tmod4 h.now, h.m]; rfl
  obtain ⟨x, r, hl, hx, h1, c1, l1, p1, q1, n1⟩ := h.c.tick_ask h.n2 d h4
  have hx' := SO.mem_oth0.1 hx
  have hh := c1.hear (dst := 0) hx p1 q1
  have key : ∃ P : List Int, P.Perm (SO.oth0 me n) ∧ r = P.drop (k + 1) ∧ seen ++ [x] = P.take (k + 1) ∧ P[k]? = some x := by
    rcases h.ls with ⟨rfl, _, e1, e2⟩ | ⟨P, hP, e1, e2, e3⟩
    · rcases hl with hl | ⟨_, hp⟩
      · rw [e1] at hl; cases hl
      · exact ⟨x :: r, hp, rfl, by rw [e2]; rfl, rfl⟩
    · rw [if_pos rfl] at e1 e2 e3
      rcases hl with hl | ⟨hl, _⟩
      · rw [e1] at hl
        have hk0 : P[k]? = some x := by
          have := congrArg (fun l : List Int => l[0]?) hl
          simpa using this
        refine ⟨P, hP, ?_, ?_, hk0⟩
        · have := congrArg (fun l : List Int => l.drop 1) hl
          simp only [List.drop_drop] at this
          exact this.symm
        · rw [List.take_add_one, hk0, e2]; rfl
      · rw [e1] at hl
        have := congrArg List.length hl
        rw [List.length_drop, hP.length_eq, SO.oth0_len h.c.n6 h.c.m1 h.c.m2] at this
        simp at this; omega
  obtain ⟨P, hP, e1, e2, e3⟩ := key
  refine ⟨x, s.seq + 1, h1, rfl, hx'.1.1, hx'.1.2, hx'.2, ?_, ?_⟩
  · have hs : seen = P.take k := by
      have := congrArg (fun l : List Int => l.take k) e2
      rw [List.take_take, show min k (k + 1) = k by omega] at this
      rw [← this]
      have hlk : seen.length = k := by
        have := congrArg List.length e2
        rw [List.length_append, List.length_take, hP.length_eq, SO.oth0_len h.c.n6 h.c.m1 h.c.m2] at this
        simp at this; omega
      rw [List.take_append_of_le_length (by omega), ← hlk, List.take_length]
    rw [Bool.eq_false_iff]
    intro hc
    rw [List.contains_iff_mem, hs] at hc
    obtain ⟨j, hj, hj2⟩ := List.mem_take_iff_getElem.1 hc
    have nd : P.Nodup := hP.nodup_iff.2 (SO.oth0_nodup me h.c.n6)
    obtain ⟨hk2, hk3⟩ := List.getElem?_eq_some_iff.1 e3
    have := (List.getElem?_inj (i := j) (j := k) (by omega) nd).1 (by rw [e3, ← hj2]; exact List.getElem?_eq_getElem (by omega))
    omega
  · rw [hh]
    refine ⟨c1.pa, h.n2, ?_, by have := h.m; omega, Or.inr ⟨P, hP, ?_, ?_, by simp⟩, fun _ => rfl⟩
    · show (SO.tick s d).1.now = _
      rw [n1, h.now]; omega
    · show (SO.tick s d).1.line = _
      rw [l1, e1]; rfl
    · rw [e2]; rfl
theorem Tn.rest {me : Int} {n : Nat} {s : SO.Sc} {tt k i : Nat} {seen : List Int} (h : Tn me n s tt k i seen) (hi : 1 ≤ i) (h4 : i < 4) (d : Int) : (SO.tick s d).2 = [] ∧ Tn me n (SO.tick s d).1 (tt + 1) k (i + 1) seen := by
  have hm : s.now.tmod 4 ≠ 0 := by rw [tmod4 h.now, h.m]; omega
  have ht := h.c.tick_rest (h.pa (by omega)) d hm
  rw [ht]
  refine ⟨rfl, h.c.tick0, h.n2, ?_, by have := h.m; omega, ?_, fun _ => h.pa (by omega)⟩
  · show s.now + 1 = _
    rw [h.now]; omega
  · rcases h.ls with ⟨_, e, _⟩ | h1
    · omega
    · right
      rw [if_neg (by omega)] at h1 ⊢
      exact h1
theorem Tn.next {me : Int} {n : Nat} {s : SO.Sc} {tt k : Nat} {seen : List Int} (h : Tn me n s tt k 4 seen) : Tn me n s tt (k + 1) 0 seen := by
  refine ⟨h.c, h.n2, h.now, by have := h.m; omega, ?_, fun e => absurd rfl e⟩
  rcases h.ls with ⟨_, e, _⟩ | h1
  · omega
  · right
    rw [if_neg (by omega)] at h1
    rw [if_pos rfl]
    exact h1
theorem Tn.turn {me : Int} {n : Nat} {s : SO.Sc} {tt k : Nat} {seen : List Int} (h : Tn me n s tt k 0 seen) (hk : k + 1 = n) : Tn me n s tt 0 0 [] := by
  refine ⟨h.c, h.n2, h.now, h.m, Or.inl ⟨rfl, rfl, ?_, rfl⟩, fun e => absurd rfl e⟩
  rcases h.ls with ⟨e, _⟩ | ⟨P, hP, e1, _⟩
  · have := h.n2; omega
  · rw [e1, if_pos rfl]
    apply List.drop_eq_nil_of_le
    rw [hP.length_eq, SO.oth0_len h.c.n6 h.c.m1 h.c.m2]; omega
theorem tn_new {me : Int} {n : Nat} (h : n ≤ 6) (h0 : 2 ≤ n) (h1 : 1 ≤ me) (h2 : me ≤ n) : Tn me n (SO.new me n) 0 0 0 [] := ⟨SO.calm_new h h1 h2, h0, rfl, rfl, Or.inl ⟨rfl, rfl, rfl, rfl⟩, fun e => absurd rfl e⟩
end Go.Proofs.Ytfpjknfgiciokaa

/- What is known only rises: on lists. -/
namespace Go.Proofs.Ytfpjknfgiciokaa.SO
set_option linter.unusedVariables false
set_option linter.unusedSimpArgs false

theorem above_trans {a b c : K.Me} (h : K.above a b = true) (k : K.above b c = true) : K.above a c = true := by
  have h := of_decide_eq_true h
  have k := of_decide_eq_true k
  exact decide_eq_true ⟨h.1, k.2.1, h.2.2.1.trans k.2.2.1, K.hi_trans h.2.2.2 k.2.2.2⟩
/-- what is known of each node has risen or stayed -/
def Rise (f g : K.Vw) : Prop := ∀ k, (f k = none ∧ g k = none) ∨ ∃ m m', f k = some m ∧ g k = some m' ∧ (m' = m ∨ K.above m' m = true)
theorem Rise.refl (f : K.Vw) : Rise f f := fun k => by
  cases h : f k with
  | none => exact Or.inl ⟨rfl, rfl⟩
  | some m => exact Or.inr ⟨m, m, rfl, rfl, Or.inl rfl⟩
theorem Rise.trans {f g h : K.Vw} (a : Rise f g) (b : Rise g h) : Rise f h := fun k => by
  rcases a k with ⟨a1, a2⟩ | ⟨m, m', a1, a2, a3⟩
  · rcases b k with ⟨b1, b2⟩ | ⟨x, x', b1, b2, b3⟩
    · exact Or.inl ⟨a1, b2⟩
    · rw [a2] at b1; cases b1
  · rcases b k with ⟨b1, b2⟩ | ⟨x, x', b1, b2, b3⟩
    · rw [a2] at b1; cases b1
    · rw [a2] at b1; cases b1
      refine Or.inr ⟨m, x', a1, b2, ?_⟩
      rcases a3 with rfl | a3
      · exact b3
      · rcases b3 with rfl | b3
        · exact Or.inr a3
        · exact Or.inr (above_trans b3 a3)
def Dom (n : Nat) (f : K.Vw) : Prop := ∀ k : Int, (∃ m, f k = some m) ↔ 1 ≤ k ∧ k ≤ n
theorem Rise.dom {n : Nat} {f g : K.Vw} (r : Rise f g) (d : Dom n f) : Dom n g := fun k => by
  rw [← d k]
  rcases r k with ⟨a, b⟩ | ⟨m, m', a, b, _⟩
  · rw [a, b]
  · exact ⟨fun _ => ⟨m, a⟩, fun _ => ⟨m', b⟩⟩
theorem rise_stp {f : K.Vw} {m : K.Me} (h : ∃ o, f m.1 = some o) : Rise f (K.stp f m) := by
  obtain ⟨o, ho⟩ := h
  unfold K.stp
  split
  · rename_i hn
    intro k
    by_cases e : k = m.1
    · subst e
      refine Or.inr ⟨o, m, ho, if_pos rfl, Or.inr ?_⟩
      unfold K.news at hn
      rw [Bool.and_eq_true, ho] at hn
      exact hn.2
    · simp only [if_neg e]
      exact Rise.refl f k
  · exact Rise.refl f
/-- a scout in order: has it left? -/
structure RI (me : Int) (n : Nat) (l : Bool) (s : Sc) : Prop where
  n6 : n ≤ 6
  hme : s.me = me
  m1 : 1 ≤ me
  m2 : me ≤ n
  hn : s.n = n
  ok : K.Ok s.f
  dom : Dom n s.f
  st : (of s me).2.2 = if l = true then 3 else 0
  pn : s.pn ≠ me ∧ 0 ≤ s.pn ∧ s.pn ≤ n
  ln : ∀ k ∈ s.line, k ≠ me ∧ 1 ≤ k ∧ k ≤ n
theorem RI.of {me : Int} {n : Nat} {l : Bool} {s : Sc} (x : RI me n l s) {k : Int} (h : 1 ≤ k ∧ k ≤ n) : ∃ m, s.f k = some m ∧ of s k = m ∧ m.1 = k ∧ K.Good m := by
  obtain ⟨m, hm⟩ := (x.dom k).2 h
  refine ⟨m, hm, ?_, (x.ok k m hm).2, (x.ok k m hm).1⟩
  unfold SO.of; rw [hm]; rfl
theorem RI.left {me : Int} {n : Nat} {l : Bool} {s : Sc} (x : RI me n l s) : left s = l := by
  unfold SO.left
  rw [x.hme, x.st]
  cases l <;> rfl
theorem RI.like {me : Int} {n : Nat} {l : Bool} {s s' : Sc} (x : RI me n l s) (h1 : s'.me = s.me) (h2 : s'.n = s.n) (h3 : s'.f = s.f) (h4 : s'.pn ≠ me ∧ 0 ≤ s'.pn ∧ s'.pn ≤ n) (h5 : ∀ k ∈ s'.line, k ≠ me ∧ 1 ≤ k ∧ k ≤ n) : RI me n l s' ∧ Rise s.f s'.f := by
  refine ⟨⟨x.n6, h1.trans x.hme, x.m1, x.m2, h2.trans x.hn, by rw [h3]; exact x.ok, by rw [h3]; exact x.dom, ?_, h4, h5⟩, by rw [h3]; exact Rise.refl _⟩
  have := x.st
  unfold SO.of at *
  rw [h3]; exact this
theorem learn_f (s : Sc) (m : K.Me) : (learn s m).f = K.stp s.f m ∧ (learn s m).me = s.me ∧ (learn s m).n = s.n ∧ (learn s m).pn = s.pn ∧ (learn s m).line = s.line ∧ (learn s m).now = s.now := by
  unfold learn
  split
  · exact ⟨rfl, rfl, rfl, rfl, rfl, rfl⟩
  · rename_i h
    unfold K.stp
    rw [if_neg h]; exact ⟨rfl, rfl, rfl, rfl, rfl, rfl⟩
theorem stp_other {f : K.Vw} {m : K.Me} {k : Int} (h : k ≠ m.1) : K.stp f m k = f k := by
  unfold K.stp
  split
  · simp only [if_neg h]
  · rfl
theorem RI.learn {me : Int} {n : Nat} {l : Bool} {s : Sc} (x : RI me n l s) (m : K.Me) (h : 1 ≤ m.1 ∧ m.1 ≤ n) (hne : m.1 ≠ me) : RI me n l (learn s m) ∧ Rise s.f (learn s m).f := by
  obtain ⟨e1, e2, e3, e4, e5, _⟩ := learn_f s m
  have hr : Rise s.f (SO.learn s m).f := by rw [e1]; exact rise_stp ((x.dom m.1).2 h)
  refine ⟨⟨x.n6, e2.trans x.hme, x.m1, x.m2, e3.trans x.hn, by rw [e1]; exact K.ok_stp x.ok m, hr.dom x.dom, ?_, by rw [e4]; exact x.pn, by rw [e5]; exact x.ln⟩, hr⟩
  have := x.st
  unfold SO.of at *
  rw [e1, stp_other (fun e => hne e.symm)]; exact this
theorem RI.turn {me : Int} {n : Nat} {l : Bool} {s : Sc} (x : RI me n l s) (k st : Int) (h : 1 ≤ k ∧ k ≤ n) (hne : k ≠ me) : RI me n l (turn s k st) ∧ Rise s.f (turn s k st).f := by
  obtain ⟨m, h1, h2, h3, h4⟩ := x.of h
  unfold SO.turn
  rw [h2]
  exact x.learn _ (by show 1 ≤ m.1 ∧ m.1 ≤ _; rw [h3]; exact h) (by show m.1 ≠ me; rw [h3]; exact hne)
theorem RI.gone {me : Int} {n : Nat} {l : Bool} : ∀ (ks : List Int) {s : Sc} (x : RI me n l s), (∀ k ∈ ks, (1 ≤ k ∧ k ≤ n) ∧ k ≠ me) → RI me n l (gone s ks) ∧ Rise s.f (gone s ks).f
  | [], s, x, _ => ⟨x, Rise.refl _⟩
  | k :: r, s, x, h => by
    obtain ⟨a, b⟩ := x.turn k 2 (h k List.mem_cons_self).1 (h k List.mem_cons_self).2
    obtain ⟨c, d⟩ := RI.gone r a (fun j hj => h j (List.mem_cons_of_mem _ hj))
    exact ⟨c, b.trans d⟩
theorem RI.those {me : Int} {n : Nat} {l : Bool} {s : Sc} (x : RI me n l s) {p : K.Me → Bool} {k : Int} (h : k ∈ those s p) : (1 ≤ k ∧ k ≤ n) ∧ ∃ m, s.f k = some m ∧ SO.of s k = m ∧ m.1 = k ∧ p m = true := by
  unfold SO.those at h
  obtain ⟨m, hm, rfl⟩ := List.mem_map.1 h
  obtain ⟨h1, h2⟩ := List.mem_filter.1 hm
  have h3 := (K.all_of x.ok h1).1
  refine ⟨(x.dom m.1).1 ⟨m, h3⟩, m, h3, ?_, rfl, h2⟩
  unfold SO.of; rw [h3]; rfl
theorem RI.over {me : Int} {n : Nat} {l : Bool} {s : Sc} (x : RI me n l s) : RI me n l (over s) ∧ Rise s.f (over s).f := by
  refine x.gone _ (fun k hk => ?_)
  obtain ⟨h1, m, h2, h3, h4, h5⟩ := x.those hk
  refine ⟨h1, fun e => ?_⟩
  subst e
  have := x.st
  rw [h3] at this
  unfold overdue at h5
  rw [this] at h5
  cases l <;> simp at h5
theorem tellS_like : ∀ (fs : List Fr) (s : Sc), (tellS s fs).me = s.me ∧ (tellS s fs).n = s.n ∧ (tellS s fs).f = s.f ∧ (tellS s fs).pn = s.pn ∧ (tellS s fs).line = s.line
  | [], s => ⟨rfl, rfl, rfl, rfl, rfl⟩
  | y :: r, s => tellS_like r (tell1 s y).1
theorem RI.tell {me : Int} {n : Nat} {l : Bool} {s : Sc} (x : RI me n l s) (fs : List Fr) : RI me n l (tellS s fs) ∧ Rise s.f (tellS s fs).f := by
  obtain ⟨a, b, c, d, e⟩ := tellS_like fs s
  exact x.like a b c (by rw [d]; exact x.pn) (by rw [e]; exact x.ln)
theorem RI.isP {me : Int} {n : Nat} {s : Sc} (x : RI me n false s) : isP s me = true := by
  obtain ⟨m, h1, h2, h3, h4⟩ := x.of ⟨x.m1, x.m2⟩
  have := x.st
  rw [h2] at this
  unfold SO.isP K.pres
  rw [List.contains_iff_mem]
  refine List.mem_map.2 ⟨m, List.mem_filter.2 ⟨K.all_mem x.ok h1, ?_⟩, h3⟩
  unfold K.here
  rw [this]; rfl
theorem RI.ask {me : Int} {n : Nat} {s : Sc} (x : RI me n false s) (d : Int) : RI me n false (ask s d).1 ∧ Rise s.f (ask s d).1.f := by
  have x0 := x.like (s' := ask0 s) rfl rfl rfl (by show (0 : Int) ≠ me ∧ (0 : Int) ≤ 0 ∧ (0 : Int) ≤ n; have := x.m1; omega) x.ln
  unfold SO.ask
  cases hs : sought (ask0 s) with
  | some k =>
    have hk : k ≠ me ∧ 0 ≤ k ∧ k ≤ n := by
      unfold sought at hs
      split at hs
      · cases hs
      · obtain ⟨hr, m, h2, h3, h4, h5⟩ := x0.1.those (List.mem_of_getElem? hs)
        refine ⟨fun e => ?_, by omega, hr.2⟩
        subst e
        rw [h4, x0.1.isP] at h5; cases h5
    have y := x.like (s' := ask1 (remind (ask0 s) k) k) rfl rfl rfl hk x.ln
    obtain ⟨a, b⟩ := y.1.tell [ping k (s.seq + 1)]
    exact ⟨a, y.2.trans b⟩
  | none =>
    have hne : ∀ k, k ∈ mix (oth (ask0 s)) d → k ≠ me ∧ 1 ≤ k ∧ k ≤ n := fun k hk => by
      have := (mix_perm _ d).mem_iff.1 hk
      unfold oth at this
      obtain ⟨h1, h2⟩ := List.mem_filter.1 this
      refine ⟨fun e => ?_, ?_⟩
      · rw [show (ask0 s).me = me from x.hme, e] at h2
        simp at h2
      · unfold K.pres at h1
        obtain ⟨m, hm, rfl⟩ := List.mem_map.1 h1
        exact (x.dom _).1 ⟨m, (K.all_of x.ok (List.mem_filter.1 hm).1).1⟩
    have hnl : ∀ k s', nextL (ask0 s) d = (some k, s') → (k ≠ me ∧ 1 ≤ k ∧ k ≤ n) ∧ s'.me = s.me ∧ s'.n = s.n ∧ s'.f = s.f ∧ ∀ j ∈ s'.line, j ≠ me ∧ 1 ≤ j ∧ j ≤ n := fun k s' h => by
      unfold nextL at h
      cases hd : (ask0 s).line.dropWhile (fun k => !SO.isP (ask0 s) k) with
      | cons y r =>
        rw [hd] at h
        simp only [Prod.mk.injEq, Option.some.injEq] at h
        obtain ⟨rfl, rfl⟩ := h
        have sub := List.dropWhile_sublist (l := (ask0 s).line) (fun k => !SO.isP (ask0 s) k)
        rw [hd] at sub
        exact ⟨x.ln _ (sub.subset List.mem_cons_self), rfl, rfl, rfl, fun j hj => x.ln j (sub.subset (List.mem_cons_of_mem _ hj))⟩
      | nil =>
        rw [hd] at h
        cases hm : mix (oth (ask0 s)) d with
        | cons y r =>
          rw [hm] at h
          simp only [Prod.mk.injEq, Option.some.injEq] at h
          obtain ⟨rfl, rfl⟩ := h
          exact ⟨hne _ (by rw [hm]; exact List.mem_cons_self), rfl, rfl, rfl, fun j hj => hne j (by rw [hm]; exact List.mem_cons_of_mem _ hj)⟩
        | nil => rw [hm] at h; simp at h
    have hn0 : ∀ s', nextL (ask0 s) d = (none, s') → s' = { ask0 s with line := [] } := fun s' h => by
      unfold nextL at h
      cases hd : (ask0 s).line.dropWhile (fun k => !SO.isP (ask0 s) k) with
      | cons y r => rw [hd] at h; simp at h
      | nil =>
        rw [hd] at h
        cases hm : mix (oth (ask0 s)) d with
        | cons y r => rw [hm] at h; simp at h
        | nil => rw [hm] at h; simp at h; exact h.symm
    rcases hx : nextL (ask0 s) d with ⟨o, s'⟩
    cases o with
    | some k =>
      obtain ⟨g1, g2, g3, g4, g5⟩ := hnl k s' hx
      have y := x.like (s' := ask1 s' k) g2 g3 g4 (by show k ≠ me ∧ 0 ≤ k ∧ k ≤ n; omega) g5
      obtain ⟨a, b⟩ := y.1.tell [ping k (s.seq + 1)]
      exact ⟨a, y.2.trans b⟩
    | none =>
      rw [hn0 s' hx]
      exact x.like (s' := { ask0 s with line := [] }) rfl rfl rfl (by show (0 : Int) ≠ me ∧ (0 : Int) ≤ 0 ∧ (0 : Int) ≤ n; have := x.m1; omega) (fun k hk => by cases hk)
theorem RI.mid {me : Int} {n : Nat} {s : Sc} (x : RI me n false s) (d : Int) : RI me n false (mid s d).1 ∧ Rise s.f (mid s d).1.f := by
  unfold SO.mid
  split
  · exact x.ask d
  · split
    · unfold askH
      split
      · have y := x.like (s' := { s with ph := helpers s }) rfl rfl rfl x.pn x.ln
        obtain ⟨a, b⟩ := y.1.tell ((helpers s).map (fun h => askF h s.ps s.pn))
        exact ⟨a, y.2.trans b⟩
      · exact ⟨x, Rise.refl _⟩
    · split
      · show RI me n false (doubt s) ∧ Rise s.f (doubt s).f
        unfold doubt
        split
        · rename_i h
          have : s.pn ≠ 0 := fun e => by rw [e] at h; simp [isOpen, e] at h
          have h6 := x.pn
          exact x.turn _ _ (by omega) x.pn.1
        · exact ⟨x, Rise.refl _⟩
      · exact ⟨x, Rise.refl _⟩
theorem RI.tick {me : Int} {n : Nat} {l : Bool} {s : Sc} (x : RI me n l s) (d : Int) : RI me n l (tick s d).1 ∧ Rise s.f (tick s d).1.f := by
  have x0 := x.like (s' := tick0 s) rfl rfl rfl x.pn x.ln
  unfold SO.tick
  rw [x0.1.left]
  cases l with
  | true => exact x0
  | false =>
    rw [if_neg (by decide)]
    obtain ⟨a, b⟩ := x0.1.mid d
    obtain ⟨c, e⟩ := a.over
    exact ⟨c, b.trans e⟩
theorem RI.rum {me : Int} {n : Nat} {l : Bool} {s : Sc} (x : RI me n l s) (m : K.Me) : RI me n l (rum s m) ∧ Rise s.f (rum s m).f := by
  have h1 : RI me n l (rum1 s m) ∧ Rise s.f (rum1 s m).f := by
    unfold rum1
    split
    · rename_i h
      unfold other at h
      rw [x.hn, x.hme] at h
      simp only [Bool.and_eq_true, decide_eq_true_eq, Bool.not_eq_true', beq_eq_false_iff_ne] at h
      exact x.learn m h.1 h.2
    · exact ⟨x, Rise.refl _⟩
  unfold SO.rum
  split
  · exact h1
  · rename_i h
    rw [h1.1.left] at h
    simp only [Bool.or_eq_true, Bool.not_eq_true', beq_eq_false_iff_ne, not_or, Bool.not_eq_true] at h
    obtain ⟨_, rfl⟩ := h
    have h2 : RI me n false (rum2 (rum1 s m) m) ∧ Rise (rum1 s m).f (rum2 (rum1 s m) m).f := by
      unfold rum2
      split
      · exact h1.1.like (s' := remind _ _) rfl rfl rfl h1.1.pn h1.1.ln
      · exact ⟨h1.1, Rise.refl _⟩
    generalize rum2 (rum1 s m) m = t at *
    have h3 : RI me n false (rum3 t m) ∧ Rise t.f (rum3 t m).f := by
      unfold rum3
      split
      · rename_i h
        have y := h2.1
        obtain ⟨e1, e2, e3, e4, e5, _⟩ := learn_f t (t.me, m.2.1 + 1, 0)
        have hr : Rise t.f (SO.learn t (t.me, m.2.1 + 1, 0)).f := by rw [e1]; exact rise_stp ((y.dom _).2 (by show 1 ≤ t.me ∧ t.me ≤ _; rw [y.hme]; exact ⟨y.m1, y.m2⟩))
        refine ⟨⟨y.n6, e2.trans y.hme, y.m1, y.m2, e3.trans y.hn, by rw [e1]; exact K.ok_stp y.ok _, hr.dom y.dom, ?_, by rw [e4]; exact y.pn, by rw [e5]; exact y.ln⟩, hr⟩
        have := y.st
        unfold SO.of at *
        rw [e1]
        unfold K.stp
        split
        · rw [← y.hme]; simp
        · exact this
      · exact ⟨h2.1, Rise.refl _⟩
    exact ⟨h3.1, (h1.2.trans h2.2).trans h3.2⟩
theorem RI.rums {me : Int} {n : Nat} {l : Bool} : ∀ (ms : List K.Me) {s : Sc} (x : RI me n l s), RI me n l (rums s ms) ∧ Rise s.f (rums s ms).f
  | [], s, x => ⟨x, Rise.refl _⟩
  | m :: r, s, x => by
    obtain ⟨a, b⟩ := x.rum m
    obtain ⟨c, d⟩ := RI.rums r a
    exact ⟨c, b.trans d⟩
theorem pHear_like (s : Sc) (f : Fr) : (pHear s f).me = s.me ∧ (pHear s f).n = s.n ∧ (pHear s f).f = s.f ∧ (pHear s f).pn = s.pn ∧ (pHear s f).line = s.line := by unfold pHear; split <;> exact ⟨rfl, rfl, rfl, rfl, rfl⟩
theorem RI.act {me : Int} {n : Nat} {l : Bool} {s : Sc} (x : RI me n l s) (f : Fr) : RI me n l (act s f).1 ∧ Rise s.f (act s f).1.f := by
  unfold SO.act
  split
  · exact x.tell _
  · split
    · unfold errand
      split
      · have y := x.like (s' := { s with seq := s.seq + 1, er := addE s.er ⟨s.seq + 1, f.node, f.frm, f.seq, false⟩ }) rfl rfl rfl x.pn x.ln
        obtain ⟨a, b⟩ := y.1.tell [ping f.node (s.seq + 1)]
        exact ⟨a, y.2.trans b⟩
      · exact ⟨x, Rise.refl _⟩
    · split
      · obtain ⟨g1, g2, g3, g4, g5⟩ := pHear_like s f
        have y := x.like g1 g2 g3 (by rw [g4]; exact x.pn) (by rw [g5]; exact x.ln)
        unfold ackE
        split
        · rename_i e _
          have z := x.like (s' := { pHear s f with er := closeL f (pHear s f).er }) g1 g2 g3 (by rw [g4]; exact x.pn) (by rw [g5]; exact x.ln)
          obtain ⟨a, b⟩ := z.1.tell [ack e.asker e.asked e.node]
          exact ⟨a, z.2.trans b⟩
        · exact y
      · exact ⟨x, Rise.refl _⟩
theorem RI.heed {me : Int} {n : Nat} {l : Bool} {s : Sc} (x : RI me n l s) (f : Fr) : RI me n l (heed s f) ∧ Rise s.f (heed s f).f := by
  unfold SO.heed
  split
  · exact ⟨x, Rise.refl _⟩
  · exact x.like (s' := remind _ _) rfl rfl rfl x.pn x.ln
theorem RI.hear {me : Int} {n : Nat} {l : Bool} {s : Sc} (x : RI me n l s) (f : Fr) : RI me n l (hear s f).1 ∧ Rise s.f (hear s f).1.f := by
  unfold SO.hear
  split
  · obtain ⟨a, b⟩ := x.heed f
    obtain ⟨c, d⟩ := RI.rums f.rum a
    split
    · exact ⟨c, b.trans d⟩
    · obtain ⟨g, h⟩ := c.act f
      exact ⟨g, (b.trans d).trans h⟩
  · exact ⟨x, Rise.refl _⟩
theorem RI.answers {me : Int} {n : Nat} {l : Bool} {s : Sc} (x : RI me n l s) (f : Fr) (hk : f.kind = 1) : (SO.hear s f).2.length = if (!l && (decide (1 ≤ f.frm) && decide (f.frm ≤ n) && !(f.frm == me))) = true then 1 else 0 := by
  have ho : other s f.frm = (decide (1 ≤ f.frm) && decide (f.frm ≤ n) && !(f.frm == me)) := by unfold other; rw [x.hn, x.hme]
  unfold SO.hear
  rw [← ho]
  cases h : other s f.frm with
  | false => simp
  | true =>
    obtain ⟨a, b⟩ := x.heed f
    obtain ⟨c, d⟩ := RI.rums f.rum a
    rw [if_pos rfl, c.left]
    cases l with
    | true => rfl
    | false =>
      rw [if_neg (by decide)]
      unfold SO.act
      rw [if_pos hk]; rfl
theorem RI.leave {me : Int} {n : Nat} {l : Bool} {s : Sc} (x : RI me n l s) : RI me n true (leave s).1 ∧ Rise s.f (leave s).1.f := by
  unfold SO.leave
  rw [x.left]
  cases l with
  | true => exact ⟨x, Rise.refl _⟩
  | false =>
    rw [if_neg (by decide)]
    obtain ⟨m, h1, h2, h3, h4⟩ := x.of ⟨x.m1, x.m2⟩
    have hst := x.st
    rw [h2] at hst
    have ht : SO.turn s s.me 3 = SO.learn s (m.1, m.2.1, 3) := by unfold SO.turn; rw [x.hme, h2]
    obtain ⟨e1, e2, e3, e4, e5, _⟩ := learn_f s (m.1, m.2.1, 3)
    have hr : Rise s.f (SO.learn s (m.1, m.2.1, 3)).f := by rw [e1]; exact rise_stp ((x.dom _).2 (by show 1 ≤ m.1 ∧ m.1 ≤ _; rw [h3]; exact ⟨x.m1, x.m2⟩))
    have hn : K.news s.f (m.1, m.2.1, 3) = true := by
      unfold K.Good at h4
      have g : K.good (m.1, m.2.1, 3) = true := (K.good_iff _).2 ⟨h4.1, h4.2.1, h4.2.2.1, h4.2.2.2.1, by dsimp only; omega, by dsimp only; omega⟩
      unfold K.news
      rw [g]
      have h1' : s.f m.1 = some m := by rw [h3]; exact h1
      simp only [h1', Bool.true_and]
      rw [if_neg (by decide)] at hst
      refine decide_eq_true ⟨(K.good_iff _).1 g, ?_, rfl, Or.inr ⟨rfl, ?_⟩⟩
      · unfold K.Good; exact h4
      · show (3 : Int) > m.2.2; omega
    have y : RI me n true (SO.learn s (m.1, m.2.1, 3)) := by
      refine ⟨x.n6, e2.trans x.hme, x.m1, x.m2, e3.trans x.hn, by rw [e1]; exact K.ok_stp x.ok _, hr.dom x.dom, ?_, by rw [e4]; exact x.pn, by rw [e5]; exact x.ln⟩
      unfold SO.of
      rw [e1]
      unfold K.stp
      rw [if_pos hn]
      simp only [h3, if_pos]
      rfl
    rw [ht]
    obtain ⟨a, b⟩ := y.tell ((oth (SO.learn s (m.1, m.2.1, 3))).map (fun k => ack k 0 s.me))
    exact ⟨a, hr.trans b⟩
theorem dom_f0 {n : Nat} (h : n ≤ 6) : Dom n (f0 n) := fun k => by
  rw [f0_at n h]
  split
  · rename_i h1; exact ⟨fun _ => h1, fun _ => ⟨_, rfl⟩⟩
  · rename_i h1
    exact ⟨fun ⟨m, hm⟩ => (by cases hm), fun h2 => absurd h2 h1⟩
theorem ri_new {me : Int} {n : Nat} (h : n ≤ 6) (h1 : 1 ≤ me) (h2 : me ≤ n) : RI me n false (new me n) := by
  refine ⟨h, rfl, h1, h2, rfl, ?_, dom_f0 h, ?_, by show (0 : Int) ≠ me ∧ (0 : Int) ≤ 0 ∧ (0 : Int) ≤ n; omega, fun k hk => by cases hk⟩
  · intro k m hm
    change f0 n k = some m at hm
    rw [f0_at n h] at hm
    split at hm
    · cases hm; exact ⟨by unfold K.Good; refine ⟨?_, ?_, ?_, ?_, ?_, ?_⟩ <;> (dsimp only; omega), rfl⟩
    · cases hm
  · unfold SO.of
    show ((f0 n me).getD (0, 0, 0)).2.2 = _
    rw [f0_at n h, if_pos ⟨h1, h2⟩]; rfl
/-- of a scout in order all nodes' words are known, by rising nodes -/
theorem all_dom {n : Nat} {f : K.Vw} (h : n ≤ 6) (d : Dom n f) : (K.all f).length = n ∧ ∀ k, k < n → (K.all f)[k]? = f ((k : Int) + 1) := by
  have key : ∀ j : Nat, (K.allN f j).length = min j n ∧ ∀ k, k < min j n → (K.allN f j)[k]? = f ((k : Int) + 1) := by
    intro j
    induction j with
    | zero => exact ⟨by simp [K.allN], fun k hk => by omega⟩
    | succ j ih =>
      obtain ⟨i1, i2⟩ := ih
      rw [K.allN_succ]
      cases hf : f ((j : Int) + 1) with
      | none =>
        have : ¬ (1 ≤ (j : Int) + 1 ∧ (j : Int) + 1 ≤ n) := fun h => by obtain ⟨m, hm⟩ := (d _).2 h; rw [hf] at hm; cases hm
        simp only [Option.toList_none, List.append_nil]
        rw [show min (j + 1) n = min j n by omega]
        exact ⟨i1, i2⟩
      | some m =>
        have : (1 ≤ (j : Int) + 1 ∧ (j : Int) + 1 ≤ n) := (d _).1 ⟨m, hf⟩
        simp only [Option.toList_some, List.length_append, List.length_singleton]
        refine ⟨by omega, fun k hk => ?_⟩
        by_cases hkj : k < j
        · rw [List.getElem?_append_left (by omega)]
          exact i2 k (by omega)
        · have e : k = j := by omega
          subst e
          rw [List.getElem?_append_right (by omega), i1, hf]
          simp [show k - min k n = 0 by omega]
  have := key 6
  rw [show min 6 n = n by omega] at this
  exact this
end Go.Proofs.Ytfpjknfgiciokaa.SO

/- The law's first look at a scout, on lists. -/
namespace Go.Proofs.Ytfpjknfgiciokaa.SO
set_option linter.unusedVariables false
set_option linter.unusedSimpArgs false

def wa : Nat → Sc
  | 0 => new 1 2
  | k + 1 => (tick (wa k) 0).1
def hf : Fr := ⟨0, 1, 2, 7, 0, [(1, 0, 1)]⟩
def wb : Nat → Sc
  | 0 => (hear (wa 4) hf).1
  | k + 1 => (tick (wb k) 0).1
def look (f : Fr) : Int × Int × Int × Int × Int := (f.dst, f.kind, f.frm, f.seq, f.node)
theorem wa_1 : (tick (wa 0) 0).2.map look = [(2, 1, 1, 1, 0)] := rfl
theorem wa_2 : (tick (wa 1) 0).2.length = 0 := rfl
theorem wa_3 : (tick (wa 2) 0).2.length = 0 := rfl
theorem wa_4 : K.all (wa 4).f = [(1, 0, 0), (2, 0, 1)] := by decide
theorem wb_0 : (hear (wa 4) hf).2.map look = [(2, 2, 1, 7, 1)] := rfl
theorem wb_8 : of (wb 8) 1 = (1, 1, 0) := by decide
theorem wb_p : K.pres (wb 8).f = [1] := by decide
end Go.Proofs.Ytfpjknfgiciokaa.SO

/- A law's scout: what it has in hand beside it. -/
namespace Go.Proofs.Ytfpjknfgiciokaa
open Go.RowKit Go.Maps
set_option linter.unusedVariables false
set_option linter.unusedSimpArgs false

/-- the same over an earlier world -/
theorem S0.base {w0 w W : World} {p : Nat} {P : Pl} {B : Nat → Prop} {N : Nat} {s : SO.Sc} (x : S0 w p P B N s W) (h : Bl w0 w) : S0 w0 p P B N s W :=
  ⟨x.row, ⟨x.vt.row, x.vt.mp, Nat.le_trans h.size x.vt.q0, Nat.le_trans h.size x.vt.b0, h.step x.vt.bl⟩, ⟨x.hl.row, owns_base x.hl.own h.size, Nat.le_trans h.size x.hl.b0, h.step x.hl.bl, x.hl.rep, x.hl.ok, x.hl.t1, x.hl.t2⟩, x.ln, x.hp, owns_base x.er h.size, x.Bp, x.Bq, x.Bb, x.Bh, x.Bv, x.Bn, x.Ba, x.Be, fun k hk => ⟨Nat.le_trans h.size (x.Bo k hk).1, (x.Bo k hk).2⟩, x.num, x.lcp⟩
/-- K holds of U and of every world in which only blocks of B are others -/
def Kp (B : Nat → Prop) (U : World) (K : World → Prop) : Prop := ∀ U' : World, U.heap.size ≤ U'.heap.size → (∀ k, k < U.heap.size → ¬ B k → U'.heap[k]? = U.heap[k]?) → K U'
/-- a scout, and what a law has in hand beside it -/
def LW (w : World) (p N : Nat) (s : SO.Sc) (K : World → Prop) (U : World) : Prop := ∃ B, SC w p B N s U ∧ Kp B U K
theorem LW.out {w U : World} {p N : Nat} {s : SO.Sc} {K : World → Prop} (h : LW w p N s K U) : K U := by
  obtain ⟨B, _, k⟩ := h
  exact k U (Nat.le_refl _) (fun _ _ _ => rfl)
theorem LW.weak {w U : World} {p N : Nat} {s : SO.Sc} {K K' : World → Prop} (h : LW w p N s K U) (hk : ∀ V, K V → K' V) : LW w p N s K' U := by
  obtain ⟨B, x, k⟩ := h
  exact ⟨B, x, fun U' a b => hk _ (k U' a b)⟩
theorem LW.bl {w U : World} {p N : Nat} {s : SO.Sc} {K : World → Prop} (h : LW w p N s K U) : Bl w U := by
  obtain ⟨B, ⟨P, x⟩, k⟩ := h
  exact x.bl
theorem LW.num {w U : World} {p N : Nat} {s : SO.Sc} {K : World → Prop} (h : LW w p N s K U) : Num s N := by
  obtain ⟨B, ⟨P, x⟩, k⟩ := h
  exact x.num
theorem LW.grow {w U V : World} {p N : Nat} {s : SO.Sc} {K : World → Prop} (h : LW w p N s K U) (hb : Bl U V) : LW w p N s K V := by
  obtain ⟨B, ⟨P, x⟩, k⟩ := h
  exact ⟨B, ⟨P, x.grow hb⟩, fun U' a b => k U' (Nat.le_trans hb.size a) (fun i hi hn => (b i (Nat.lt_of_lt_of_le hi hb.size) hn).trans (hb.block i hi))⟩
theorem LW.more {w U : World} {p N M : Nat} {s : SO.Sc} {K : World → Prop} (h : LW w p N s K U) (hM : N ≤ M) : LW w p M s K U := by
  obtain ⟨B, ⟨P, x⟩, k⟩ := h
  exact ⟨B, ⟨P, x.more hM⟩, k⟩
theorem LW.new {w U : World} {p N : Nat} {B : Nat → Prop} {s : SO.Sc} (h : SC w p B N s U) : LW w p N s (fun _ => True) U := ⟨B, h, fun _ _ _ => trivial⟩
theorem LW.base {w0 w U : World} {p N : Nat} {s : SO.Sc} {K : World → Prop} (h : LW w p N s K U) (hb : Bl w0 w) : LW w0 p N s K U := by
  obtain ⟨B, ⟨P, x⟩, k⟩ := h
  exact ⟨B, ⟨P, x.base hb⟩, k⟩
/-- what lies in new blocks -/
theorem LW.add {w U V : World} {p N : Nat} {s : SO.Sc} {K K' : World → Prop} (h : LW w p N s K U) (hb : Bl U V) (hk : ∀ V' : World, V.heap.size ≤ V'.heap.size → (∀ i, U.heap.size ≤ i → i < V.heap.size → V'.heap[i]? = V.heap[i]?) → K' V') : LW w p N s (fun V => K V ∧ K' V) V := by
  obtain ⟨B, ⟨P, x⟩, k⟩ := h
  refine ⟨B, ⟨P, x.grow hb⟩, fun U' a b => ⟨k U' (Nat.le_trans hb.size a) (fun i hi hn => (b i (Nat.lt_of_lt_of_le hi hb.size) hn).trans (hb.block i hi)), hk U' a (fun i h1 h2 => b i h2 (fun e => ?_))⟩⟩
  have := (x.Bo i e).2
  omega
/-- frames as a slice: what they say, their rumours aside -/
def FV (a : Option Addr) (fs : List SO.Fr) (V : World) : Prop := ∀ (i : Nat) (f : SO.Fr), fs[i]? = some f → ∃ b off ra rc, a = some ⟨b, off, none⟩ ∧ b < V.heap.size ∧ V.rangeAt b (off + i * 238) (snL f.dst f.kind f.frm f.seq f.node zM (.slice ra f.rum.length rc))
theorem FRS.fv {W : World} {X : Nat → Prop} {a : Option Addr} {ys : List Sn} {fs : List SO.Fr} (h : FRS W X a ys fs) : FV a fs W := fun i f hf => by
  have hi : i < ys.length := by rw [h.len]; exact (List.getElem?_eq_some_iff.1 hf).1
  have hy : ys[i]? = some ys[i] := List.getElem?_eq_getElem hi
  obtain ⟨b, off, e1, e2, e3⟩ := h.rs i _ hy
  have e := h.each i _ f hy hf
  refine ⟨b, off, ys[i].ra, ys[i].rc, e1, e2, ?_⟩
  rw [← e.d, ← e.k, ← e.f, ← e.s, ← e.n, ← e.l]
  exact e3
theorem FV.five {a : Option Addr} {fs : List SO.Fr} {V : World} (h : FV a fs V) {f : SO.Fr} (hf : fs[0]? = some f) : ∃ b off, a = some ⟨b, off, none⟩ ∧ b < V.heap.size ∧ V.cell? ⟨b, off, none⟩ = some (.int .i64 f.dst) ∧ V.cell? ⟨b, off + 1, none⟩ = some (.int .i64 f.kind) ∧ V.cell? ⟨b, off + 2, none⟩ = some (.int .i64 f.frm) ∧ V.cell? ⟨b, off + 3, none⟩ = some (.int .i64 f.seq) ∧ V.cell? ⟨b, off + 4, none⟩ = some (.int .i64 f.node) := by
  obtain ⟨b, off, ra, rc, e1, e2, e3⟩ := h 0 f hf
  rw [Nat.zero_mul, Nat.add_zero] at e3
  exact ⟨b, off, e1, e2, e3 0 _ rfl, e3 1 _ rfl, e3 2 _ rfl, e3 3 _ rfl, e3 4 _ rfl⟩
theorem Ans.lw {w W w' : World} {p N M : Nat} {B : Nat → Prop} {s s0 : SO.Sc} {fs : List SO.Fr} {e : Ending} {K : World → Prop} (x : SC w p B M s0 W) (k : Kp B W K) (h : Ans w p B W N s fs e w') : ∃ a c, e = .returned (.slice a fs.length c) ∧ LW w p N s (fun V => K V ∧ FV a fs V) w' := by
  obtain ⟨a, c, ys, B', rfl, x', o, hf⟩ := h
  refine ⟨a, c, rfl, B', x', fun U' h1 h2 => ⟨k U' (Nat.le_trans o.size h1) (fun i hi hn => ?_), ?_⟩⟩
  · have hn' : ¬ B' i := fun hB => by
      rcases o.own i hB with h | h
      · exact hn h
      · omega
    rw [h2 i (Nat.lt_of_lt_of_le hi o.size) hn', o.block i hi hn]
  · have := hf.keep (X' := fun g => W.heap.size ≤ g ∧ ¬ B' g) h1 (fun g hx hg => ⟨h2 g hg hx.2, hx⟩)
    exact this.fv
theorem Tick_l {w U : World} {p N : Nat} {s : SO.Sc} {K : World → Prop} (h : LW w p N s K U) (hN : N ≤ 1000000000) (d : Int) (hd : i64 d) : Calls Try.prog 13 #[.pointer (some ⟨p, 0, none⟩), .int .i64 d] U fun e w' => ∃ a c, e = .returned (.slice a (SO.tick s d).2.length c) ∧ LW w p (N + 10) (SO.tick s d).1 (fun V => K V ∧ FV a (SO.tick s d).2 V) w' := by
  obtain ⟨B, ⟨P, x⟩, k⟩ := h
  exact (Tick_x x hN d hd).mono fun e w' h => Ans.lw ⟨P, x⟩ k h
theorem Hear_l {w U V : World} {p N : Nat} {s : SO.Sc} {K : World → Prop} (h : LW w p N s K U) (hb : Bl U V) (hN : N ≤ 10000000000) (FL : List Value) (f : SO.Fr) (a : Option Addr) (c : Nat) (hf : FrC FL f a c) (hfr : i64 f.frm) (hr : RS lyM V a f.rum) (ha : ∀ g off, a = some ⟨g, off, none⟩ → g < w.heap.size ∨ U.heap.size ≤ g) (hi : ∀ m ∈ f.rum, i64 m.1 ∧ i64 m.2.1) (hl : f.rum.length ≤ 1000) (h3 : f.kind ≠ 3) :
    Calls Try.prog 14 #[.pointer (some ⟨p, 0, none⟩), .agg FL.toArray] V fun e w' => ∃ a c, e = .returned (.slice a (SO.hear s f).2.length c) ∧ LW w p (N + 2 * f.rum.length + 1) (SO.hear s f).1 (fun V => K V ∧ FV a (SO.hear s f).2 V) w' := by
  obtain ⟨B, ⟨P, x⟩, k⟩ := h
  have y := x.grow hb
  refine (Hear_x y hN FL f a c hf hfr hr (fun g off e _ hB => ?_) hi hl (fun e => absurd e h3)).mono fun e w' h => ?_
  · have := x.Bo g hB
    rcases ha g off e with h | h <;> omega
  · refine Ans.lw ⟨P, y⟩ (fun U' a b => k U' (Nat.le_trans hb.size a) (fun i hi hn => (b i (Nat.lt_of_lt_of_le hi hb.size) hn).trans (hb.block i hi))) h
theorem All_l {w U : World} {p N : Nat} {s : SO.Sc} {Z : World → Prop} (h : LW w p N s Z U) : Calls Try.prog 11 #[.pointer (some ⟨p, 0, none⟩)] U fun e w' => ∃ a c, e = .returned (.slice a (K.all s.f).length c) ∧ RS lyM w' a (K.all s.f) ∧ LW w p N s Z w' := by
  obtain ⟨B, ⟨P, x⟩, k⟩ := id h
  refine (All_x x).mono ?_
  rintro e w' ⟨a, c, rfl, h1, h2⟩
  exact ⟨a, c, rfl, h1, h.grow h2⟩
theorem Me_l {w U : World} {p N : Nat} {s : SO.Sc} {K : World → Prop} (h : LW w p N s K U) : Calls Try.prog 17 #[.pointer (some ⟨p, 0, none⟩)] U fun e w' => e = .returned (.agg (meV (SO.of s s.me))) ∧ LW w p N s K w' := by
  obtain ⟨B, ⟨P, x⟩, k⟩ := id h
  refine (Me_x x).mono ?_
  rintro e w' ⟨rfl, h2⟩
  exact ⟨rfl, h.grow h2⟩
theorem Present_l {w U : World} {p N : Nat} {s : SO.Sc} {Z : World → Prop} (h : LW w p N s Z U) : Calls Try.prog 19 #[.pointer (some ⟨p, 0, none⟩)] U fun e w' => ∃ a c, e = .returned (.slice a (K.pres s.f).length c) ∧ LW w p N s Z w' := by
  obtain ⟨B, ⟨P, x⟩, k⟩ := id h
  refine (Present_x x).mono ?_
  rintro e w' ⟨v, rfl, h1, h2⟩
  obtain ⟨a, c, rfl, _⟩ := owns_rs lyI h1
  exact ⟨a, c, rfl, h.grow h2⟩
end Go.Proofs.Ytfpjknfgiciokaa

/- The law's first look. -/
namespace Go.Proofs.Ytfpjknfgiciokaa
open Go.RowKit Go.Maps
set_option linter.unusedVariables false
set_option linter.unusedSimpArgs false

theorem build56c (k fr sq : Int) (rv : Value) (hr : ∃ a n c, rv = .slice a n c) : Try.prog.built 56 [(0, .int .i64 k), (1, .int .i64 fr), (2, .int .i64 sq), (14, rv)] = some (frL k fr sq 0 zM rv).toArray := by
  obtain ⟨a, n, c, rfl⟩ := hr
  kernel_rfl
theorem build56d (k fr sq nd : Int) : Try.prog.built 56 [(0, .int .i64 k), (1, .int .i64 fr), (2, .int .i64 sq), (3, .int .i64 nd)] = some (frL k fr sq nd zM nilV).toArray := by kernel_rfl
theorem frL_one {k fr sq nd : Int} {M : List Value} {rv : Value} (h : ∀ v ∈ M, v.oneCell' = true) (hr : rv.oneCell' = true) : ∀ v ∈ frL k fr sq nd M rv, v.oneCell' = true := fun v hv => snL_one (tt := 0) h hr v (List.mem_cons_of_mem _ hv)
theorem frC (dst k fr sq nd : Int) (a : Option Addr) (c : Nat) (rm : List K.Me) : FrC (frL k fr sq nd zM (.slice a rm.length c)) ⟨dst, k, fr, sq, nd, rm⟩ a c := by
  refine ⟨frL_len zM_len, frL_one zM_one rfl, rfl, rfl, rfl, rfl, ?_⟩
  unfold frL
  rw [List.getElem?_append_right (by simp), List.getElem?_append_right (by simp [zM_len])]
  simp [zM_len]
theorem look_one {l : List SO.Fr} {d k f s n : Int} (h : l.map SO.look = [(d, k, f, s, n)]) : l.length = 1 ∧ ∃ y, l[0]? = some y ∧ y.dst = d ∧ y.kind = k ∧ y.frm = f ∧ y.seq = s ∧ y.node = n := by
  have hl : l.length = 1 := by have := congrArg List.length h; simpa using this
  obtain ⟨y, rfl⟩ := List.length_eq_one_iff.1 hl
  simp only [List.map_cons, List.map_nil, List.cons.injEq, and_true, SO.look, Prod.mk.injEq] at h
  exact ⟨rfl, y, rfl, h⟩
theorem build38x (n st : Int) : Try.prog.built 38 [(0, .int .i64 n), (2, .int .i64 st)] = some (meV (n, 0, st)) := by kernel_rfl
theorem build38y (n i : Int) : Try.prog.built 38 [(0, .int .i64 n), (1, .int .i64 i)] = some (meV (n, i, 0)) := by kernel_rfl
set_option maxRecDepth 8000 in
set_option maxHeartbeats 8000000 in
theorem awake_12 {w W : World} (hb : Bl w W) : Calls Try.prog 8 #[] W fun e w' => e = .returned (.bool true) ∧ Bl w w' := by
  have N1 : Hid (Calls Try.prog 12 #[.int .i64 1, .int .i64 2] W fun e w' => ∃ p, e = .returned (.pointer (some ⟨p, 0, none⟩)) ∧ LW W p 6 (SO.wa 0) (fun _ => True) w') := (New_yes 1 2 (by decide) (by decide) (by decide) (by decide) W).mono fun e w' ⟨p, B, h1, h2⟩ => ⟨p, h1, LW.new h2⟩
  have N2 : Hid (∀ U, Calls Try.prog 12 #[.int .i64 3, .int .i64 2] U fun e w' => e = .returned (.pointer none) ∧ w' = U) := fun U => New_no 3 2 (by decide) U
  have T1 : Hid (∀ p U, LW W p 6 (SO.wa 0) (fun _ => True) U → Calls Try.prog 13 #[.pointer (some ⟨p, 0, none⟩), .int .i64 0] U fun e w' => ∃ a c, e = .returned (.slice a 1 c) ∧ LW W p 16 (SO.wa 1) (FV a (SO.tick (SO.wa 0) 0).2) w') := fun p U h => (Tick_l h (by decide) 0 ⟨by decide, by decide⟩).mono fun e w' ⟨a, c, h1, h2⟩ => ⟨a, c, by rw [h1, (look_one SO.wa_1).1], h2.weak fun V h => h.2⟩
  have T2 : Hid (∀ p U a, LW W p 16 (SO.wa 1) (FV a (SO.tick (SO.wa 0) 0).2) U → Calls Try.prog 13 #[.pointer (some ⟨p, 0, none⟩), .int .i64 0] U fun e w' => ∃ a' c, e = .returned (.slice a' 0 c) ∧ LW W p 26 (SO.wa 2) (FV a (SO.tick (SO.wa 0) 0).2) w') := fun p U a h => (Tick_l h (by decide) 0 ⟨by decide, by decide⟩).mono fun e w' ⟨a, c, h1, h2⟩ => ⟨a, c, by rw [h1, SO.wa_2], h2.weak fun V h => h.1⟩
  have T3 : Hid (∀ p U a, LW W p 26 (SO.wa 2) (FV a (SO.tick (SO.wa 0) 0).2) U → Calls Try.prog 13 #[.pointer (some ⟨p, 0, none⟩), .int .i64 0] U fun e w' => ∃ a' c, e = .returned (.slice a' 0 c) ∧ LW W p 36 (SO.wa 3) (FV a (SO.tick (SO.wa 0) 0).2) w') := fun p U a h => (Tick_l h (by decide) 0 ⟨by decide, by decide⟩).mono fun e w' ⟨a, c, h1, h2⟩ => ⟨a, c, by rw [h1, SO.wa_3], h2.weak fun V h => h.1⟩
  have T4 : Hid (∀ p U a, LW W p 36 (SO.wa 3) (FV a (SO.tick (SO.wa 0) 0).2) U → Calls Try.prog 13 #[.pointer (some ⟨p, 0, none⟩), .int .i64 0] U fun e w' => ∃ v, e = .returned v ∧ LW W p 46 (SO.wa 4) (FV a (SO.tick (SO.wa 0) 0).2) w') := fun p U a h => (Tick_l h (by decide) 0 ⟨by decide, by decide⟩).mono fun e w' ⟨a, c, h1, h2⟩ => ⟨_, h1, h2.weak fun V h => h.1⟩
  have A1 : Hid (∀ p U a, LW W p 46 (SO.wa 4) (FV a (SO.tick (SO.wa 0) 0).2) U → Calls Try.prog 11 #[.pointer (some ⟨p, 0, none⟩)] U fun e w' => ∃ b1 o1 b2 o2 c, a = some ⟨b1, o1, none⟩ ∧ e = .returned (.slice (some ⟨b2, o2, none⟩) 2 c) ∧ (w'.cell? ⟨b1, o1, none⟩ = some (.int .i64 2) ∧ w'.cell? ⟨b1, o1 + 1, none⟩ = some (.int .i64 1) ∧ w'.cell? ⟨b1, o1 + 2, none⟩ = some (.int .i64 1) ∧ w'.cell? ⟨b1, o1 + 3, none⟩ = some (.int .i64 1)) ∧ w'.cell? ⟨b2, o2 + 5, none⟩ = some (.int .i64 1) ∧ LW W p 46 (SO.wa 4) (fun _ => True) w') := fun p U a h => (All_l h).mono fun e w' ⟨a2, c2, h1, h2, h3⟩ => by
    obtain ⟨_, y, hy, e1, e2, e3, e4, e5⟩ := look_one SO.wa_1
    obtain ⟨b, off, hab, _, k0, k1, k2, k3, k4⟩ := h3.out.five hy
    rw [e1] at k0; rw [e2] at k1; rw [e3] at k2; rw [e4] at k3
    rw [SO.wa_4] at h2 h1
    obtain ⟨b2, o2, hb2, _, r2⟩ := h2 1 (2, 0, 1) rfl
    exact ⟨b, off, b2, o2, c2, hab, by rw [h1, hb2]; rfl, ⟨k0, k1, k2, k3⟩, r2 2 _ rfl, h3.weak fun _ _ => trivial⟩
  have H1 : Hid (∀ p U V b C, LW W p 46 (SO.wa 4) (fun _ => True) U → b = U.heap.size → C = (frL 1 2 7 0 zM (.slice (some ⟨b, 0, none⟩) 1 1)).toArray → V = U.alloc (.cells [.int .i64 1, .int .i64 0, .int .i64 1].toArray 38) → Calls Try.prog 14 #[.pointer (some ⟨p, 0, none⟩), .agg C] V fun e w' => ∃ b c off, e = .returned (.slice (some ⟨b, off, none⟩) 1 c) ∧ LW W p 49 (SO.wb 0) (fun V => V.cell? ⟨b, off + 1, none⟩ = some (.int .i64 2) ∧ V.cell? ⟨b, off + 3, none⟩ = some (.int .i64 7) ∧ V.cell? ⟨b, off + 4, none⟩ = some (.int .i64 1)) w') := fun p U V b C h hbe hC hV => by
    subst hC hV hbe
    refine (Hear_l h ((Bl.refl U).alloc _) (by decide) (frL 1 2 7 0 zM (.slice (some ⟨U.heap.size, 0, none⟩) 1 1)) SO.hf _ _ (frC 0 1 2 7 0 (some ⟨U.heap.size, 0, none⟩) 1 [(1, 0, 1)]) ⟨by decide, by decide⟩ (RS.one lyM U 38 (1, 0, 1)) (fun g off e => by cases e; exact Or.inr (Nat.le_refl _)) (fun m hm => by simp [SO.hf] at hm; subst hm; exact ⟨⟨by decide, by decide⟩, ⟨by decide, by decide⟩⟩) (by decide) (by decide)).mono ?_
    rintro e w' ⟨a, c, h1, h2⟩
    obtain ⟨hl, y, hy, e1, e2, e3, e4, e5⟩ := look_one SO.wb_0
    obtain ⟨b, off, hab, _⟩ := h2.out.2.five hy
    refine ⟨b, c, off, by rw [h1, hl, hab], h2.weak fun V hV => ?_⟩
    obtain ⟨b', off', hab', _, k0, k1, k2, k3, k4⟩ := hV.2.five hy
    rw [hab] at hab'; cases hab'
    rw [e2] at k1; rw [e4] at k3; rw [e5] at k4
    exact ⟨k1, k3, k4⟩
  have TB : Hid (∀ p U K k, k < 8 → LW W p (49 + 10 * k) (SO.wb k) K U → Calls Try.prog 13 #[.pointer (some ⟨p, 0, none⟩), .int .i64 0] U fun e w' => ∃ v, e = .returned v ∧ LW W p (49 + 10 * (k + 1)) (SO.wb (k + 1)) K w') := fun p U K k hk h => (Tick_l h (by omega) 0 ⟨by decide, by decide⟩).mono fun e w' ⟨a, c, h1, h2⟩ => ⟨_, h1, h2.weak fun V h => h.1⟩
  have M1 : Hid (∀ p U K, LW W p 129 (SO.wb 8) K U → Calls Try.prog 17 #[.pointer (some ⟨p, 0, none⟩)] U fun e w' => e = .returned (.agg #[.int .i64 1, .int .i64 1, .int .i64 0]) ∧ LW W p 129 (SO.wb 8) K w') := fun p U K h => (Me_l h).mono fun e w' ⟨h1, h2⟩ => ⟨by rw [h1, show (SO.wb 8).me = 1 from rfl, SO.wb_8]; rfl, h2⟩
  have P1 : Hid (∀ p U K, LW W p 129 (SO.wb 8) K U → Calls Try.prog 19 #[.pointer (some ⟨p, 0, none⟩)] U fun e w' => ∃ a c, e = .returned (.slice a 1 c) ∧ Bl w w') := fun p U K h => (Present_l h).mono fun e w' ⟨a, c, h1, h2⟩ => ⟨a, c, by rw [h1, SO.wb_p]; rfl, hb.step h2.bl⟩
  clear hb
  go_enter Try.func8, Try.ntmps8
  go_wp2_with (first
    | (go_at_call 12; refine (N1.out).mono ?_; clear N1; rintro e w1 ⟨p, rfl, h1⟩; have L0 := hidI h1; clear h1)
    | (go_at_call 12; refine (N2.out _).mono ?_; clear N2; rintro e w2 ⟨rfl, hw⟩; rw [hw]; clear hw w2)
    | (go_at_call 13; refine (T1.out _ _ L0.out).mono ?_; clear T1 L0; rintro e w3 ⟨a1, c1, rfl, h1⟩; have L1 := hidI h1; clear h1)
    | (go_at_call 13; refine (T2.out _ _ _ L1.out).mono ?_; clear T2 L1; rintro e w4 ⟨a2, c2, rfl, h1⟩; have L2 := hidI h1; clear h1)
    | (go_at_call 13; refine (T3.out _ _ _ L2.out).mono ?_; clear T3 L2; rintro e w5 ⟨a3, c3, rfl, h1⟩; have L3 := hidI h1; clear h1)
    | (go_at_call 13; refine (T4.out _ _ _ L3.out).mono ?_; clear T4 L3; rintro e w6 ⟨v4, rfl, h1⟩; have L4 := hidI h1; clear h1)
    | (go_at_call 11; refine (A1.out _ _ _ L4.out).mono ?_; clear A1 L4; rintro e w7 ⟨b1, o1, b2, o2, c2, rfl, rfl, ⟨k0, k1, k2, k3⟩, k5, h1⟩; have L5 := hidI h1; clear h1)
    | (go_at_call 14; refine (H1.out _ _ _ _ _ L5.out rfl (by kernel_rfl) rfl).mono ?_; clear H1 L5 k0 k1 k2 k3 k5; rintro e w8 ⟨b3, c3', o3, rfl, h1⟩; have L6 := hidI h1; clear h1))
  go_loopw [7] (fun u7 wr => ∃ k : Nat, k ≤ 8 ∧ u7 = .int .i64 (k : Int) ∧ LW W p (49 + 10 * k) (SO.wb k) (fun V => V.cell? ⟨b3, o3 + 1, none⟩ = some (.int .i64 2) ∧ V.cell? ⟨b3, o3 + 3, none⟩ = some (.int .i64 7) ∧ V.cell? ⟨b3, o3 + 4, none⟩ = some (.int .i64 1)) wr) (fun u7 _ => 8 - (intOf u7).toNat)
  case atStart => exact ⟨0, by omega, rfl, L6.out⟩
  case round =>
    obtain ⟨k, hk, rfl, hl⟩ := hrel
    clear L6
    by_cases hlt : k < 8
    · have CT := hidI (TB.out _ _ _ k hlt hl)
      clear hl TB
      go_wp2_with (go_at_call 13; refine (CT.out).mono ?_; clear CT; rintro e w9 ⟨v9, rfl, h1⟩; have L7 := hidI h1; clear h1)
      go_roundw
      case rel => exact ⟨k + 1, by omega, by go_num, L7.out⟩
      case measure => simp [intOf]; omega
    · obtain rfl : k = 8 := by omega
      obtain ⟨k1, k3, k4⟩ := hl.out
      have CM := hidI (M1.out _ _ _ hl)
      clear hl TB
      go_wp2_with (first
        | (go_at_call 17; refine (CM.out).mono ?_; clear CM; rintro e w10 ⟨rfl, h1⟩; have L8 := hidI h1; clear h1)
        | (go_at_call 19; refine (P1.out _ _ _ L8.out).mono ?_; clear P1 L8; rintro e w11 ⟨a4, c4, rfl, h1⟩; have HB := hidI h1; clear h1))
      go_ret
      exact ⟨rfl, HB.out⟩
end Go.Proofs.Ytfpjknfgiciokaa

/- A law's scout with an array beside it; asked in turn. -/
namespace Go.Proofs.Ytfpjknfgiciokaa
open Go.RowKit Go.Maps
set_option linter.unusedVariables false
set_option linter.unusedSimpArgs false

abbrev t7 : TypeId := 69
/-- a scout, and a block of flags that is none of its own -/
def TWs (w : World) (p N : Nat) (s : SO.Sc) (q : Nat) (L : List Value) (U : World) : Prop := ∃ B, SC w p B N s U ∧ ¬ B q ∧ w.heap.size ≤ q ∧ U.heap[q]? = some (.cells L.toArray t7 (0, 0))
theorem TWs.bl {w U : World} {p N q : Nat} {s : SO.Sc} {L : List Value} (h : TWs w p N s q L U) : Bl w U := by
  obtain ⟨B, ⟨P, x⟩, _⟩ := h
  exact x.bl
theorem TWs.num {w U : World} {p N q : Nat} {s : SO.Sc} {L : List Value} (h : TWs w p N s q L U) : Num s N := by
  obtain ⟨B, ⟨P, x⟩, _⟩ := h
  exact x.num
theorem TWs.row {w U : World} {p N q : Nat} {s : SO.Sc} {L : List Value} (h : TWs w p N s q L U) : U.heap[q]? = some (.cells L.toArray t7 (0, 0)) := by
  obtain ⟨B, _, _, _, r⟩ := h
  exact r
theorem TWs.lw {w U : World} {p N q : Nat} {s : SO.Sc} {L : List Value} (h : TWs w p N s q L U) : LW w p N s (fun _ => True) U := by
  obtain ⟨B, x, _⟩ := h
  exact LW.new x
theorem TWs.more {w U : World} {p N M q : Nat} {s : SO.Sc} {L : List Value} (h : TWs w p N s q L U) (hM : N ≤ M) : TWs w p M s q L U := by
  obtain ⟨B, ⟨P, x⟩, a⟩ := h
  exact ⟨B, ⟨P, x.more hM⟩, a⟩
theorem TWs.grow {w U V : World} {p N q : Nat} {s : SO.Sc} {L : List Value} (h : TWs w p N s q L U) (hb : Bl U V) : TWs w p N s q L V := by
  obtain ⟨B, ⟨P, x⟩, a, b, r⟩ := h
  exact ⟨B, ⟨P, x.grow hb⟩, a, b, (hb.block _ (lt_heap r)).trans r⟩
theorem TWs.set {w U V : World} {p N q : Nat} {s : SO.Sc} {L L' : List Value} (h : TWs w p N s q L U) (ho : Of1 q U V) (hr : V.heap[q]? = some (.cells L'.toArray t7 (0, 0))) : TWs w p N s q L' V := by
  obtain ⟨B, ⟨P, x⟩, a, b, r⟩ := h
  exact ⟨B, ⟨P, x.keep ho.size (ho.bl x.bl b) (fun k hk => ho.block k (x.Bo k hk).2 (fun e => a (e ▸ hk)))⟩, a, b, hr⟩
theorem TWs.new {w U V : World} {p N : Nat} {s : SO.Sc} {L : List Value} (h : LW w p N s (fun _ => True) U) (hV : V = U.alloc (.cells L.toArray t7)) : TWs w p N s U.heap.size L V := by
  subst hV
  obtain ⟨B, ⟨P, x⟩, _⟩ := h
  exact ⟨B, ⟨P, x.grow ((Bl.refl U).alloc _)⟩, fun hB => by have := (x.Bo _ hB).2; omega, x.bl.size, heap_alloc_new _ _⟩
theorem Ans.tw {w W w' : World} {p N M q : Nat} {B : Nat → Prop} {s s0 : SO.Sc} {fs : List SO.Fr} {e : Ending} {L : List Value} (hq : ¬ B q) (hw : w.heap.size ≤ q) (hr : W.heap[q]? = some (.cells L.toArray t7 (0, 0))) (h : Ans w p B W N s fs e w') : ∃ a c, e = .returned (.slice a fs.length c) ∧ TWs w p N s q L w' ∧ FV a fs w' := by
  obtain ⟨a, c, ys, B', rfl, x', o, hf⟩ := h
  refine ⟨a, c, rfl, ⟨B', x', fun hB => ?_, hw, (o.block q (lt_heap hr) hq).trans hr⟩, hf.fv⟩
  rcases o.own q hB with h | h
  · exact hq h
  · have := lt_heap hr; omega
theorem TWs.tick {w U : World} {p N q : Nat} {s : SO.Sc} {L : List Value} (h : TWs w p N s q L U) (hN : N ≤ 1000000000) (d : Int) (hd : i64 d) : Calls Try.prog 13 #[.pointer (some ⟨p, 0, none⟩), .int .i64 d] U fun e w' => ∃ a c, e = .returned (.slice a (SO.tick s d).2.length c) ∧ TWs w p (N + 10) (SO.tick s d).1 q L w' ∧ FV a (SO.tick s d).2 w' := by
  obtain ⟨B, ⟨P, x⟩, a, b, r⟩ := h
  exact (Tick_x x hN d hd).mono fun e w' h => Ans.tw (s0 := s) (M := N) a b r h
theorem TWs.hear {w U : World} {p N q : Nat} {s : SO.Sc} {L : List Value} (h : TWs w p N s q L U) (hN : N ≤ 10000000000) (x sq : Int) (hx : i64 x) : Calls Try.prog 14 #[.pointer (some ⟨p, 0, none⟩), .agg (frL 2 x sq x zM nilV).toArray] U fun e w' => ∃ v, e = .returned v ∧ TWs w p (N + 1) (SO.hear s ⟨0, 2, x, sq, x, []⟩).1 q L w' := by
  obtain ⟨B, ⟨P, y⟩, a, b, r⟩ := h
  refine (Hear_x y hN (frL 2 x sq x zM nilV) ⟨0, 2, x, sq, x, []⟩ none 0 (frC 0 2 x sq x none 0 []) hx (RS.nil _ _ _) (fun g off e => by cases e) (fun m hm => by cases hm) (Nat.zero_le _) (fun e => by simp at e)).mono fun e w' h => ?_
  obtain ⟨a', c', h1, h2, h3⟩ := Ans.tw (s0 := s) (M := N) a b r h
  exact ⟨_, h1, h2⟩
/-- flags of those who were seen -/
def sb (l : List Int) : List Value := (List.range 7).map fun (j : Nat) => .bool (l.contains (j : Int))
theorem sb_len (l : List Int) : (sb l).length = 7 := by simp [sb]
theorem sb_at (l : List Int) {x : Int} (h : 0 ≤ x ∧ x ≤ 6) : (sb l)[x.toNat]? = some (.bool (l.contains x)) := by
  unfold sb
  rw [List.getElem?_map, List.getElem?_range (by omega)]
  simp only [Option.map_some]
  rw [show ((x.toNat : Nat) : Int) = x by omega]
theorem sb_set (l : List Int) {x : Int} (h : 0 ≤ x ∧ x ≤ 6) : (sb l).set x.toNat (.bool true) = sb (l ++ [x]) := by
  apply List.ext_getElem?
  intro j
  unfold sb
  rw [List.getElem?_set]
  by_cases hj : j < 7
  · rw [List.getElem?_map, List.getElem?_map, List.getElem?_range hj]
    simp only [Option.map_some, List.length_map, List.length_range]
    by_cases e : x.toNat = j
    · rw [if_pos e, if_pos (by omega)]
      have : (j : Int) = x := by omega
      simp [this]
    · rw [if_neg e]
      have : (j : Int) ≠ x := by omega
      simp [this]
  · rw [if_neg (by omega), List.getElem?_eq_none (by simp; omega), List.getElem?_eq_none (by simp; omega)]
theorem sb_nil : sb [] = [.bool false, .bool false, .bool false, .bool false, .bool false, .bool false, .bool false] := rfl
def um12 (n : Int) (m : Nat) : Nat := (n % 18446744073709551616).toNat % m
theorem um12_lt (n : Int) (m : Nat) (h : 0 < m) : um12 n m < m := Nat.mod_lt _ h
theorem um12_wrap (n : Int) (m : Nat) : Int.tmod (IntKind.u64.wrap n) (m : Int) = (um12 n m : Int) := by
  have e : IntKind.u64.wrap n = ((n % 18446744073709551616).toNat : Int) := by
    simp only [IntKind.wrap, IntKind.bits, IntKind.signed]; simp; omega
  rw [e, Int.tmod_eq_emod_of_nonneg (by omega)]; rfl
end Go.Proofs.Ytfpjknfgiciokaa
