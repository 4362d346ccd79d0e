/- Names play no part: on lists. -/
import Derived.Test.YtjbffhdccgmfpaaGreatDoorOMath
namespace Go.Proofs.YtjbffhdccgmfpaaGreatDoor.RN
open RC TR
set_option linter.unusedVariables false
set_option linter.unusedSimpArgs false

/-- a q ahead of a name -/
def qn (s : Bs) : Bs := 113 :: s
theorem qn_inj {s t : Bs} : qn s = qn t ↔ s = t := by simp [qn]
def qa (a : Ac) : Ac := (qn a.1, a.2.1.map qn, a.2.2)
def qg (g : Gr) : Gr := (g.1.map qn, g.2.map qa)
theorem nm_qg (g : Gr) : nm (qg g) = (nm g).map qn := by
  unfold nm qg
  rw [List.map_append, List.map_map, List.map_map]; rfl
theorem pos_q : ∀ (l : List Bs) (s : Bs), pos (l.map qn) (qn s) = pos l s
  | [], s => rfl
  | x :: r, s => by
    have ih := pos_q r s
    unfold pos at ih ⊢
    rw [List.map_cons, List.findIdx?_cons, List.findIdx?_cons, ih]
    have e : decide (qn x = qn s) = decide (x = s) := by rw [decide_eq_decide]; exact qn_inj
    rw [e]
theorem bit_q (l : List Bs) (s : Bs) : bit (l.map qn) (qn s) = bit l s := by unfold bit; rw [pos_q]
theorem setF_q (l : List Bs) : ∀ (xs : List Bs) (a : Nat), (xs.map qn).foldl (fun a x => a ||| bit (l.map qn) x) a = xs.foldl (fun a x => a ||| bit l x) a
  | [], a => rfl
  | x :: r, a => by
    rw [List.map_cons, List.foldl_cons, List.foldl_cons, bit_q]
    exact setF_q l r _
theorem setOf_q (l xs : List Bs) : setOf (l.map qn) (xs.map qn) = setOf l xs := setF_q l xs 0
theorem insO_q (g : Gr) (p : Nat) : insO (qg g) p = (insO g p).map qn := by
  unfold insO qg
  rw [List.getElem?_map]
  cases g.2[p]? <;> rfl
theorem ready_q (g : Gr) (th : Nat) (a : Ac) : ready (qg g) th (qa a) = ready g th a := by
  unfold ready
  rw [nm_qg]
  have e1 : setOf ((nm g).map qn) [(qa a).1] = setOf (nm g) [a.1] := setOf_q (nm g) [a.1]
  have e2 : setOf ((nm g).map qn) (qa a).2.1 = setOf (nm g) a.2.1 := setOf_q (nm g) a.2.1
  rw [e1, e2]
theorem len_q (g : Gr) : (qg g).1.length = g.1.length ∧ (qg g).2.length = g.2.length := by simp [qg]
theorem needN_q (g : Gr) (st : St) (p : Nat) : needN (qg g) st p = needN g st p := by
  unfold needN
  rw [nm_qg, insO_q, setOf_q]
  have e : needF (qg g) (setOf (nm g) (insO g p)) st.needs = needF g (setOf (nm g) (insO g p)) st.needs := by
    funext a o
    unfold needF
    rw [(len_q g).1]
  rw [e]
theorem take_q (g : Gr) (st : St) (p : Nat) : TR.take (qg g) st p = TR.take g st p := by
  unfold TR.take
  rw [needN_q, (len_q g).1]
theorem find_q (g : Gr) (th : Nat) : (qg g).2.findIdx? (ready (qg g) th) = g.2.findIdx? (ready g th) := by
  show (g.2.map qa).findIdx? (ready (qg g) th) = _
  rw [List.findIdx?_map]
  congr 1
  funext a
  exact ready_q g th a
theorem arr_q (g : Gr) : ∀ (n : Nat) (st : St), arr (qg g) n st = arr g n st
  | 0, st => rfl
  | n + 1, st => by
    rw [arr, arr, find_q]
    cases g.2.findIdx? (ready g st.there) with
    | none => rfl
    | some p => simp only; rw [take_q]; exact arr_q g n _
theorem st0_q (g : Gr) : st0 (qg g) = st0 g := by
  unfold st0
  rw [nm_qg]
  have e : setOf ((nm g).map qn) (qg g).1 = setOf (nm g) g.1 := setOf_q (nm g) g.1
  rw [e]
theorem fin_q (g : Gr) : fin (qg g) = fin g := by
  unfold fin
  rw [(len_q g).2, arr_q, st0_q]
theorem isNm_q {s : Bs} (h : isNm s = true) (hl : s.length ≤ 7) : isNm (qn s) = true := by
  simp only [isNm, Bool.and_eq_true, decide_eq_true_eq, Bool.not_eq_true', List.isEmpty_eq_false_iff] at h ⊢
  refine ⟨⟨by simp [qn], by simp [qn]; omega⟩, ?_⟩
  unfold qn
  rw [List.all_cons, h.2]; rfl
/-- a build that can be, renamed -/
theorem good_q {g : Gr} (h : TR.Good g) (hs : ∀ s ∈ g.1, s.length ≤ 7) (ha : ∀ a ∈ g.2, a.1.length ≤ 7) : TR.Good (qg g) := by
  have hnm : ∀ s ∈ nm g, s.length ≤ 7 := fun s hm => by
    unfold nm at hm
    rcases List.mem_append.1 hm with hm | hm
    · exact hs s hm
    · obtain ⟨a, h1, rfl⟩ := List.mem_map.1 hm
      exact ha a h1
  refine ⟨?_, ?_, ?_, ?_⟩
  · have hc := h.can
    unfold can at hc ⊢
    simp only [Bool.and_eq_true, decide_eq_true_eq, List.all_eq_true] at hc ⊢
    obtain ⟨⟨⟨c1, c2⟩, c3⟩, c4⟩ := hc
    refine ⟨⟨⟨by rw [(len_q g).1]; exact c1, by rw [(len_q g).2]; exact c2⟩, fun s hm => ?_⟩, fun a hm => ?_⟩
    · obtain ⟨x, hx, rfl⟩ := List.mem_map.1 hm
      exact isNm_q (c3 x hx) (hs x hx)
    · obtain ⟨x, hx, rfl⟩ := List.mem_map.1 hm
      have h4 := c4 x hx
      unfold canA at h4 ⊢
      simp only [Bool.and_eq_true, decide_eq_true_eq, List.all_eq_true] at h4 ⊢
      obtain ⟨⟨⟨d1, d2⟩, d3⟩, d4⟩ := h4
      refine ⟨⟨⟨isNm_q d1 (ha x hx), by unfold qa; simpa using d2⟩, fun s hs' => ?_⟩, d4⟩
      obtain ⟨y, hy, rfl⟩ := List.mem_map.1 hs'
      exact isNm_q (d3 y hy) (hnm y (miss_not h.ms x hx y hy))
  · rw [nm_qg]
    have := h.nd
    rw [List.nodup_iff_pairwise_ne] at this ⊢
    rw [List.pairwise_map]
    exact this.imp fun hab e => hab (qn_inj.1 e)
  · have hm := h.ms
    unfold miss at hm ⊢
    rw [List.any_eq_false] at hm ⊢
    intro a ha'
    obtain ⟨x, hx, rfl⟩ := List.mem_map.1 ha'
    have h1 := hm x hx
    unfold missA at h1 ⊢
    rw [Bool.not_eq_true, List.any_eq_false] at h1 ⊢
    intro s hs'
    obtain ⟨y, hy, rfl⟩ := List.mem_map.1 hs'
    have h2 := h1 y hy
    simp only [Bool.not_eq_true', decide_eq_false_iff_not, Classical.not_not] at h2 ⊢
    rw [nm_qg]
    exact List.mem_map.2 ⟨y, h2, rfl⟩
  · rw [fin_q, (len_q g).2, arr_q, st0_q]; exact h.arr
/-- sources in another order, renamed -/
def qs (s : O.So) : O.So := (qn s.1, s.2)
def ql (l : List O.So) : List O.So := (l.map qs).reverse
theorem ok_q {g : Gr} {l : List O.So} (h : O.Ok g l) (hs : ∀ s ∈ g.1, s.length ≤ 7) (ha : ∀ a ∈ g.2, a.1.length ≤ 7) : O.Ok (qg g) (ql l) := by
  have en : O.nms (ql l) = ((O.nms l).map qn).reverse := by
    unfold O.nms ql
    rw [List.map_reverse, List.map_map, List.map_map]; rfl
  refine ⟨good_q h.good hs ha, ?_, by rw [(len_q g).1]; unfold ql; rw [List.length_reverse, List.length_map]; exact h.len, fun s hm => ?_, fun s hm => ?_⟩
  · rw [en, (List.reverse_perm _).nodup_iff]
    have := h.nd
    rw [List.nodup_iff_pairwise_ne] at this ⊢
    rw [List.pairwise_map]
    exact this.imp fun hab e => hab (qn_inj.1 e)
  · obtain ⟨x, hx, rfl⟩ := List.mem_map.1 hm
    rw [en, List.mem_reverse]
    exact List.mem_map.2 ⟨x, h.all x hx, rfl⟩
  · unfold ql at hm
    rw [List.mem_reverse] at hm
    obtain ⟨x, hx, rfl⟩ := List.mem_map.1 hm
    exact h.blob x hx
theorem names_at {g : Gr} {l : List O.So} (h : O.Ok g l) (hq : O.Ok (qg g) (ql l)) : ∀ (n j o : Nat) (t : Ac), j < n → (fin g).order[j]? = some o → g.2[o]? = some t → O.ins (O.baked (qg g) (ql l)) (t.2.1.map qn) = O.ins (O.baked g l) t.2.1
  | 0, j, o, t, hj, _, _ => by omega
  | n + 1, j, o, t, hj, ho, ht => by
    unfold O.ins
    rw [List.map_map]
    refine List.map_congr_left fun x hx => ?_
    show O.gt (O.baked (qg g) (ql l)) (qn x) = _
    have hti : x ∈ insO g o := by rw [insO_of ht]; exact hx
    rcases h.good.inv.topo j o ho x hti with h1 | ⟨j', o', u, h1, h2, h3, h4⟩
    · obtain ⟨a, ha, ea⟩ := List.mem_map.1 (h.all x h1)
      have hb : qs a ∈ ql l := by unfold ql; rw [List.mem_reverse]; exact List.mem_map.2 ⟨a, ha, rfl⟩
      rw [← ea, O.gt_source h ha]
      exact O.gt_source hq hb
    · have ih := names_at h hq n j' o' u (by omega) h2 h3
      have h3' : (qg g).2[o']? = some (qa u) := by unfold qg; rw [List.getElem?_map, h3]; rfl
      have e := O.gt_act hq.good (ql l) h3'
      rw [← h4, O.gt_act h.good l h3]
      refine e.trans ?_
      show O.mk u.2.2 (O.ins _ (u.2.1.map qn)) = _
      rw [ih]
/-- NAMES PLAY NO PART -/
theorem names {g : Gr} {l : List O.So} (h : O.Ok g l) (hq : O.Ok (qg g) (ql l)) {p : Nat} {t : Ac} (ht : g.2[p]? = some t) :
    O.gt (O.baked (qg g) (ql l)) (qn t.1) = O.gt (O.baked g l) t.1 ∧ O.keyA (O.baked (qg g) (ql l)) (qa t) = O.keyA (O.baked g l) t := by
  have hp : p < g.2.length := (List.getElem?_eq_some_iff.1 ht).1
  obtain ⟨j, hj⟩ := List.mem_iff_getElem?.1 (h.good.all hp)
  have e := names_at h hq (j + 1) j p t (by omega) hj ht
  have h3' : (qg g).2[p]? = some (qa t) := by unfold qg; rw [List.getElem?_map, ht]; rfl
  have e2 : O.gt (O.baked (qg g) (ql l)) (qn t.1) = O.gt (O.baked g l) t.1 := by
    rw [O.gt_act h.good l ht]
    refine (O.gt_act hq.good (ql l) h3').trans ?_
    show O.mk t.2.2 (O.ins _ (t.2.1.map qn)) = _
    rw [e]
  refine ⟨e2, ?_⟩
  unfold O.keyA
  show (if (O.gt (O.baked (qg g) (ql l)) (qn t.1)).1 = 34 then O.zd else O.key t.2.2 (O.ins _ (t.2.1.map qn))) = _
  rw [e2, e]
end Go.Proofs.YtjbffhdccgmfpaaGreatDoor.RN
