/- Builds that the law makes: rows of actions of its own, appended to. -/
import Derived.Test.YtjbffhdccgmfpaaGreatDoorLB
import Derived.Deep.AppendLies
namespace Go.Proofs.YtjbffhdccgmfpaaGreatDoor
open Go.RowKit
set_option linter.unusedVariables false
set_option linter.unusedSimpArgs false

/-- an action's inputs: they lie below N, or are a row of one's own -/
def IO (N : Nat) (w : World) (x : Option Addr) (c : Nat) (l : List (List UInt8)) : Prop := Strs N w (.slice x l.length c) l ∨ w.ownsRow N 9 1 (.slice x l.length c) l.length (l.map encS)
theorem IO.bl {N : Nat} {w w' : World} {x : Option Addr} {c : Nat} {l : List (List UInt8)} (h : IO N w x c l) (hb : Bl w w') (hN : N ≤ w.heap.size) : IO N w' x c l := by
  rcases h with h | h
  · exact Or.inl (h.below (Below.mono hb hN) (Nat.le_refl _))
  · exact Or.inr (ownsRow_belowT h hb)
theorem IO.grown {N n : Nat} {w w8 : World} {x : Option Addr} {c : Nat} {l : List (List UInt8)} {v : Value} {xs : List Value} (h : IO N w x c l) (hv : w.ownsRow N 43 3 v n xs) (hg : w.grownBy w8 v.ownBlock) (hN : N ≤ w.heap.size) : IO N w8 x c l := by
  rcases h with h | h
  · exact Or.inl (h.below (Below.grown (Below.refl N w) hg hN (fun k hk => (TA.owns_ge hv hk).1)) (Nat.le_refl _))
  · exact Or.inr (ownsRow_grown h hv (by decide) hg)
theorem IO.strs {N : Nat} {w : World} {x : Option Addr} {c : Nat} {l : List (List UInt8)} (h : IO N w x c l) (hN : N ≤ w.heap.size) : Strs w.heap.size w (.slice x l.length c) l := by
  rcases h with h | h
  · exact h.below (Below.refl _ w) hN
  · exact strs_of_owns h
/-- a row of actions of one's own -/
structure AO (N M : Nat) (w : World) (v : Value) (A : List RC.Ac) (ys : List (Option Addr × Nat)) : Prop where
  own : w.ownsRow M 43 3 v A.length (flatA A ys)
  len : ys.length = A.length
  ins : ∀ (i : Nat) (t : RC.Ac) (x : Option Addr) (c : Nat), A[i]? = some t → ys[i]? = some (x, c) → IO N w x c t.2.1
  nm : N ≤ M
  m : M ≤ w.heap.size
theorem AO.n {N M : Nat} {w : World} {v : Value} {A : List RC.Ac} {ys : List (Option Addr × Nat)} (h : AO N M w v A ys) : N ≤ w.heap.size := Nat.le_trans h.nm h.m
theorem AO.bl {N M : Nat} {w w' : World} {v : Value} {A : List RC.Ac} {ys : List (Option Addr × Nat)} (h : AO N M w v A ys) (hb : Bl w w') : AO N M w' v A ys :=
  ⟨ownsRow_belowT h.own hb, h.len, fun i t x c h1 h2 => (h.ins i t x c h1 h2).bl hb h.n, h.nm, Nat.le_trans h.m (Below.size hb)⟩
theorem AO.acts {N M : Nat} {w : World} {v : Value} {A : List RC.Ac} {ys : List (Option Addr × Nat)} (h : AO N M w v A ys) : ∃ a c, v = .slice a A.length c ∧ Acts w.heap.size w a A := by
  obtain ⟨aa, ac, rfl⟩ := own_shape h.own
  refine ⟨aa, ac, rfl, fun i t ht => ?_⟩
  have hi : i < A.length := (List.getElem?_eq_some_iff.1 ht).1
  have hl := h.len
  obtain ⟨p, hp⟩ : ∃ p, ys[i]? = some p := ⟨ys[i]'(by omega), List.getElem?_eq_getElem _⟩
  obtain ⟨x, c⟩ := p
  obtain ⟨h0, ⟨_, h2⟩ | ⟨gb, cap, cur, h1, h2, h3, h4, h5, h6, h7⟩⟩ := h.own
  · omega
  · simp only [Value.slice.injEq] at h1
    refine ⟨gb, 0, x, c, h1.1, TA.lt_heap h3, fun j v hv => ?_, (h.ins i t x c ht hp).strs h.n⟩
    have hj : j < 3 := by
      have := (List.getElem?_eq_some_iff.1 hv).1
      simpa [acL] using this
    rw [Lib.cell_of_heap h3, Nat.zero_add]
    have h8 : (cur.toList.take (A.length * 3))[i * 3 + j]? = (flatA A ys)[i * 3 + j]? := by rw [h7]
    rw [List.getElem?_take_of_lt (by omega), flatA_at A ys i t (x, c) ht hp j hj, hv] at h8
    simpa using h8
theorem flatA_app (A B : List RC.Ac) (ys zs : List (Option Addr × Nat)) (h : ys.length = A.length) : flatA (A ++ B) (ys ++ zs) = flatA A ys ++ flatA B zs := by
  unfold flatA
  rw [List.zipWith_append h.symm, List.flatten_append]
theorem flatA_len : ∀ (A : List RC.Ac) (ys : List (Option Addr × Nat)), ys.length = A.length → (flatA A ys).length = A.length * 3
  | [], ys, h => by simp [flatA]
  | a :: A, [], h => by simp at h
  | a :: A, y :: ys, h => by
    have ih := flatA_len A ys (by simpa using h)
    simp only [flatA, List.zipWith_cons_cons, List.flatten_cons, List.length_append] at ih ⊢
    rw [ih]; simp [acL]; omega
theorem flatA_one : ∀ (A : List RC.Ac) (ys : List (Option Addr × Nat)), ∀ u ∈ flatA A ys, u.oneCell' = true := by
  intro A ys u hu
  unfold flatA at hu
  obtain ⟨l, hl, hu⟩ := List.mem_flatten.1 hu
  obtain ⟨i, hi, e⟩ := List.getElem_of_mem hl
  rw [List.getElem_zipWith] at e
  rw [← e] at hu
  simp only [acL, List.mem_cons, List.not_mem_nil, or_false] at hu
  rcases hu with rfl | rfl | rfl <;> rfl
theorem AO.app {N M : Nat} {w w8 : World} {v v' : Value} {A B : List RC.Ac} {ys zs : List (Option Addr × Nat)} (h : AO N M w v A ys) (hz : zs.length = B.length) (hi : ∀ (i : Nat) (t : RC.Ac) (x : Option Addr) (c : Nat), B[i]? = some t → zs[i]? = some (x, c) → IO N w x c t.2.1)
    (ho : w8.ownsRow M 43 3 v' (A.length + B.length) (flatA A ys ++ flatA B zs)) (hg : w.grownBy w8 v.ownBlock) : AO N M w8 v' (A ++ B) (ys ++ zs) := by
  refine ⟨by rw [List.length_append, flatA_app A B ys zs h.len]; exact ho, by simp [h.len, hz], fun i t x c h1 h2 => ?_, h.nm, Nat.le_trans h.m hg.size⟩
  rcases Nat.lt_or_ge i A.length with hlt | hge
  · rw [List.getElem?_append_left hlt] at h1
    rw [List.getElem?_append_left (by rw [h.len]; exact hlt)] at h2
    exact (h.ins i t x c h1 h2).grown (ownsRow_base h.own h.nm) hg h.n
  · rw [List.getElem?_append_right hge] at h1
    rw [List.getElem?_append_right (by rw [h.len]; exact hge), h.len] at h2
    exact (hi _ t x c h1 h2).grown (ownsRow_base h.own h.nm) hg h.n
theorem AO.nil {N M : Nat} {w : World} (h0 : N ≤ M) (h : M ≤ w.heap.size) : AO N M w (.slice none 0 0) [] [] := ⟨⟨rfl, Or.inl ⟨rfl, rfl⟩⟩, rfl, fun i t x c h => by simp at h, h0, h⟩
theorem AO.new (w : World) {N M : Nat} (h0 : N ≤ M) (h : M ≤ w.heap.size) : AO N M (w.alloc (.cells #[] 43)) (.slice (some ⟨w.heap.size, 0, none⟩) 0 0) [] [] :=
  ⟨⟨rfl, Or.inr ⟨w.heap.size, 0, #[], rfl, h, heap_alloc_new w _, Nat.le_refl _, by unfold maxLen; omega, rfl, rfl⟩⟩, rfl, fun i t x c h => by simp at h, h0, by simp; omega⟩
/-- growth leaves what lies below -/
theorem AO.below {N M : Nat} {w0 w w8 : World} {v : Value} {A : List RC.Ac} {ys : List (Option Addr × Nat)} (h : AO N M w v A ys) (hb : Bl w0 w) (hN : w0.heap.size ≤ M) (hg : w.grownBy w8 v.ownBlock) : Bl w0 w8 :=
  Below.grown hb hg (Nat.le_trans hN h.m) (fun k hk => Nat.le_trans hN (TA.owns_ge h.own hk).1)
theorem list_ofZ {α : Type} {P : Nat → α → Prop} : ∀ n : Nat, (∀ i, i < n → ∃ d, P i d) → ∃ l : List α, l.length = n ∧ ∀ i d, l[i]? = some d → P i d
  | 0, _ => ⟨[], rfl, fun i d h => by simp at h⟩
  | n + 1, h => by
    obtain ⟨l, hl, hp⟩ := list_ofZ n (fun i hi => h i (by omega))
    obtain ⟨d, hd⟩ := h n (by omega)
    refine ⟨l ++ [d], by simp [hl], fun i x hx => ?_⟩
    by_cases hi : i < n
    · rw [List.getElem?_append_left (by omega)] at hx; exact hp i x hx
    · rw [List.getElem?_append_right (by omega)] at hx
      have hin : i = n := by
        have := (List.getElem?_eq_some_iff.1 hx).1
        simp at this; omega
      subst hin
      simp [hl] at hx; subst hx; exact hd
/-- actions that lie somewhere, as a row to be appended -/
theorem acts_list {w : World} {a : Option Addr} {A : List RC.Ac} (h : Acts w.heap.size w a A) (h0 : 0 < A.length) : ∃ b off ys, a = some ⟨b, off, none⟩ ∧ b < w.heap.size ∧ ys.length = A.length ∧ (∀ (j : Nat) (u : Value), (flatA A ys)[j]? = some u → w.cell? ⟨b, off + j, none⟩ = some u) ∧ ∀ (i : Nat) (t : RC.Ac) (x : Option Addr) (c : Nat), A[i]? = some t → ys[i]? = some (x, c) → Strs w.heap.size w (.slice x t.2.1.length c) t.2.1 := by
  obtain ⟨t0, ht0⟩ : ∃ t, A[0]? = some t := ⟨A[0], List.getElem?_eq_getElem h0⟩
  obtain ⟨b, off, x0, c0, rfl, hb, _, _⟩ := h 0 t0 ht0
  obtain ⟨ys, hl, hy⟩ := list_ofZ (P := fun i (p : Option Addr × Nat) => ∀ t, A[i]? = some t → w.rangeAt b (off + i * 3) (acL t p.1 p.2) ∧ Strs w.heap.size w (.slice p.1 t.2.1.length p.2) t.2.1) A.length (fun i hi => by
    obtain ⟨b', off', x, c, e, _, h3, h4⟩ := h i A[i] (List.getElem?_eq_getElem hi)
    cases e
    refine ⟨(x, c), fun t ht => ?_⟩
    rw [List.getElem?_eq_getElem hi] at ht
    cases ht
    exact ⟨h3, h4⟩)
  refine ⟨b, off, ys, rfl, hb, hl, fun j u hu => ?_, fun i t x c h1 h2 => (hy i (x, c) h2 t h1).2⟩
  have hjl : j < A.length * 3 := by
    have := (List.getElem?_eq_some_iff.1 hu).1
    rw [flatA_len A ys hl] at this; exact this
  have hi : j / 3 < A.length := by omega
  have hj3 : j % 3 < 3 := Nat.mod_lt _ (by decide)
  have ej : j = j / 3 * 3 + j % 3 := by omega
  have hp : ys[j / 3]? = some ys[j / 3] := List.getElem?_eq_getElem _
  have ht : A[j / 3]? = some A[j / 3] := List.getElem?_eq_getElem hi
  have h1 := flatA_at A ys (j / 3) A[j / 3] ys[j / 3] ht hp (j % 3) hj3
  rw [← ej, hu] at h1
  have h2 := (hy (j / 3) ys[j / 3] hp A[j / 3] ht).1 (j % 3) u h1.symm
  rw [show off + j = off + j / 3 * 3 + j % 3 by omega]; exact h2
section
variable {ops : Array Oper} {rest : List Oper} {o : Oper} {a : Act} {w : World} {Q : Exit → Act → World → Prop} {K : Act → World → Prop} {E : Prop}
theorem wl_appX (hgd : o.guard = none) (s x : Operand) (ho : o.op = .call { callee := .builtin .append, args := #[s, x], argTypes := #[23, 23] }) (N M : Nat) (A : List RC.Ac) (ys : List (Option Addr × Nat)) (v : Value) (hs : a.eval s = v) (hA : AO N M w v A ys)
    (B : List RC.Ac) (zs : List (Option Addr × Nat)) (b off m c : Nat) (hm : m = B.length) (hx : a.eval x = .slice (some ⟨b, off, none⟩) m c) (hnews : ∀ (j : Nat) (u : Value), (flatA B zs)[j]? = some u → w.cell? ⟨b, off + j, none⟩ = some u) (hz : zs.length = B.length)
    (hi : ∀ (i : Nat) (t : RC.Ac) (x : Option Addr) (c : Nat), B[i]? = some t → zs[i]? = some (x, c) → IO N w x c t.2.1) (hB : 0 < B.length) (hn : A.length + B.length ≤ 1000)
    (h : ∀ a' c' w', AO N M w' (.slice a' (A ++ B).length c') (A ++ B) (ys ++ zs) → w.grownBy w' v.ownBlock → wpList Tryz.prog ops Q rest (a.put o.dst (.slice a' (A ++ B).length c')) w') : wpList Tryz.prog ops Q (o :: rest) a w := by
  subst hm
  obtain ⟨i0, hi0, hz0, hz1, hz2⟩ := TA.info_partsT (show (Tryz.prog.info? 43).map (fun i => (i.zero, i.size, i.bytes)) = some (some (.agg zAc), 3, 56) by kernel_rfl)
  refine wpList_append_lies _ hgd s x 23 ho M 43 i0 (.agg zAc) 3 56 Tryz.underlying23 hi0 hz0 hz1 hz2 rfl (by decide) v A.length (flatA A ys) hs hA.own ⟨b, off, none⟩ B.length c (flatA B zs) hx (flatA_len B zs hz) (fun j u hu => ?_) (flatA_one B zs) hB (by unfold maxLen; omega) (by omega) hA.m w.heap.size rfl (fun g cap w' h1 h2 h3 h4 => ?_)
  · rw [Addr.add_mid]; exact hnews j u hu
  · have := h (some ⟨g, 0, none⟩) cap w'
    rw [List.length_append] at this
    exact this (hA.app hz hi h1 h2) h2
theorem st_appX (hgd : o.guard = none) (s x : Operand) (ho : o.op = .call { callee := .builtin .append, args := #[s, x], argTypes := #[23, 23] }) (N M : Nat) (A : List RC.Ac) (ys : List (Option Addr × Nat)) (v : Value) (hs : a.eval s = v) (hA : AO N M w v A ys)
    (B : List RC.Ac) (zs : List (Option Addr × Nat)) (b off m c : Nat) (hm : m = B.length) (hx : a.eval x = .slice (some ⟨b, off, none⟩) m c) (hnews : ∀ (j : Nat) (u : Value), (flatA B zs)[j]? = some u → w.cell? ⟨b, off + j, none⟩ = some u) (hz : zs.length = B.length)
    (hi : ∀ (i : Nat) (t : RC.Ac) (x : Option Addr) (c : Nat), B[i]? = some t → zs[i]? = some (x, c) → IO N w x c t.2.1) (hB : 0 < B.length) (hn : A.length + B.length ≤ 1000)
    (h : ∀ a' c' w', AO N M w' (.slice a' (A ++ B).length c') (A ++ B) (ys ++ zs) → w.grownBy w' v.ownBlock → K (a.put o.dst (.slice a' (A ++ B).length c')) w') : if Region.wanted o (yielded ops a.tmps) = true then Oper.wp Tryz.prog o a w K Q else E := by
  subst hm
  obtain ⟨i0, hi0, hz0, hz1, hz2⟩ := TA.info_partsT (show (Tryz.prog.info? 43).map (fun i => (i.zero, i.size, i.bytes)) = some (some (.agg zAc), 3, 56) by kernel_rfl)
  refine step_append_lies _ hgd s x 23 ho M 43 i0 (.agg zAc) 3 56 Tryz.underlying23 hi0 hz0 hz1 hz2 rfl (by decide) v A.length (flatA A ys) hs hA.own ⟨b, off, none⟩ B.length c (flatA B zs) hx (flatA_len B zs hz) (fun j u hu => ?_) (flatA_one B zs) hB (by unfold maxLen; omega) (by omega) hA.m w.heap.size rfl (fun g cap w' h1 h2 h3 h4 => ?_)
  · rw [Addr.add_mid]; exact hnews j u hu
  · have := h (some ⟨g, 0, none⟩) cap w'
    rw [List.length_append] at this
    exact this (hA.app hz hi h1 h2) h2
end
end Go.Proofs.YtjbffhdccgmfpaaGreatDoor
