/- A build that the reference is reading. -/
import Derived.Test.YtgjpcddjfmdobaaDoorX7h
import Derived.Test.YtgjpcddjfmdobaaDoorL16
namespace Go.Proofs.YtgjpcddjfmdobaaDoor
open Go.RowKit
set_option linter.unusedVariables false

/-- a build in the making: its block b, the rows above N, nothing that lay in w has turned -/
structure DG (w : World) (N b : Nat) (g : RC.Gr) (vs va : Value) (xs : List (Option Addr × Nat)) (W : World) : Prop where
  blk : W.heap[b]? = some (.cells #[vs, va] 25 (0, 0))
  s : W.ownsRow N 9 1 vs g.1.length (g.1.map encS)
  a : W.ownsRow N 42 3 va g.2.length (flatA g.2 xs)
  len : xs.length = g.2.length
  ins : ∀ (i : Nat) (t : RC.Ac) (x : Option Addr) (c : Nat), g.2[i]? = some t → xs[i]? = some (x, c) → W.ownsRow N 9 1 (.slice x t.2.1.length c) t.2.1.length (t.2.1.map encS)
  lt : b < N
  sz : N ≤ W.heap.size
  wb : w.heap.size ≤ b
  bl : Bl w W
theorem DG.step {w : World} {N b : Nat} {g : RC.Gr} {vs va : Value} {xs : List (Option Addr × Nat)} {W W' : World} (h : DG w N b g vs va xs W) (hb : Bl W W') : DG w N b g vs va xs W' :=
  ⟨by rw [Below.block hb b (TA.lt_heap h.blk)]; exact h.blk, ownsRow_belowT h.s hb, ownsRow_belowT h.a hb, h.len, fun i t x c h1 h2 => ownsRow_belowT (h.ins i t x c h1 h2) hb, h.lt, Nat.le_trans h.sz (Below.size hb), h.wb, h.bl.step hb⟩
theorem DG.cs {w : World} {N b : Nat} {g : RC.Gr} {vs va : Value} {xs : List (Option Addr × Nat)} {W : World} (h : DG w N b g vs va xs W) : W.cell? ⟨b, 0, none⟩ = some vs := by rw [Lib.cell_of_heap h.blk]; rfl
theorem DG.ca {w : World} {N b : Nat} {g : RC.Gr} {vs va : Value} {xs : List (Option Addr × Nat)} {W : World} (h : DG w N b g vs va xs W) : W.cell? ⟨b, 1, none⟩ = some va := by rw [Lib.cell_of_heap h.blk]; rfl
theorem DG.fz {w : World} {N b : Nat} {g : RC.Gr} {vs va : Value} {xs : List (Option Addr × Nat)} {W : World} (h : DG w N b g vs va xs W) (i : Nat) : W.frozen? ⟨b, i, none⟩ = false := by simp [World.frozen?, h.blk]
/-- a row grew, and the build's field was set to it -/
theorem DG.appS {w : World} {N b : Nat} {S : List (List UInt8)} {vs va : Value} {W W1 w8 : World} (h : DG w N b (S, []) vs va [] W) (hb : Bl W W1) (n : List UInt8) (v' : Value) (ho : w8.ownsRow N 9 1 v' (S.length + 1) (S.map encS ++ [encS n])) (hg : W1.grownBy w8 vs.ownBlock) : DG w N b (S ++ [n], []) v' va [] (w8.setCell ⟨b, 0, none⟩ v') := by
  have h1 := h.step hb
  have hne : some b ≠ vs.ownBlock := fun e => by have := (TA.owns_ge h1.s e.symm).1; have := h.lt; omega
  have hblk : w8.heap[b]? = some (.cells #[vs, va] 25 (0, 0)) := by rw [hg.block b (TA.lt_heap h1.blk) hne]; exact h1.blk
  refine ⟨by rw [heap_setCell_rowR hblk]; rfl, ?_, ?_, rfl, fun i t x c h1 => by simp at h1, h.lt, ?_, h.wb, ?_⟩
  · have := ownsRow_setC (i := 0) ho h.lt v'
    simpa using this
  · have := ownsRow_grown h1.a h1.s (by decide) hg
    exact ownsRow_setC this h.lt v'
  · have h2 := hg.size; have h3 := h1.sz
    have e : (w8.setCell ⟨b, 0, none⟩ v').heap.size = w8.heap.size := by simp
    omega
  · have hz : w.heap.size ≤ W1.heap.size := Below.size h1.bl
    have : Below w.heap.size w w8 := Below.grown h1.bl hg hz (fun k hk => by have := (TA.owns_ge h1.s hk).1; have := h.lt; have := h.wb; omega)
    exact this.setCell h.wb _
theorem DG.appA {w : World} {N b : Nat} {S : List (List UInt8)} {A : List RC.Ac} {vs va : Value} {xs : List (Option Addr × Nat)} {W W1 w8 : World} (h : DG w N b (S, A) vs va xs W) (hb : Bl W W1) (t : RC.Ac) (x : Option Addr) (c : Nat) (hi : W.ownsRow N 9 1 (.slice x t.2.1.length c) t.2.1.length (t.2.1.map encS)) (v' : Value) (ho : w8.ownsRow N 42 3 v' (A.length + 1) (flatA A xs ++ acL t x c)) (hg : W1.grownBy w8 va.ownBlock) : DG w N b (S, A ++ [t]) vs v' (xs ++ [(x, c)]) (w8.setCell ⟨b, 1, none⟩ v') := by
  have h1 := h.step hb
  have hlen := h.len
  simp only [] at hlen
  have hne : some b ≠ va.ownBlock := fun e => by have := (TA.owns_ge h1.a e.symm).1; have := h.lt; omega
  have hblk : w8.heap[b]? = some (.cells #[vs, va] 25 (0, 0)) := by rw [hg.block b (TA.lt_heap h1.blk) hne]; exact h1.blk
  have hne2 : (9 : TypeId) ≠ 42 := by decide
  refine ⟨by rw [heap_setCell_rowR hblk]; rfl, ?_, ?_, by simp [hlen], fun i u y d h2 h3 => ?_, h.lt, ?_, h.wb, ?_⟩
  · exact ownsRow_setC (ownsRow_grown h1.s h1.a hne2 hg) h.lt v'
  · have := ownsRow_setC (i := 1) ho h.lt v'
    simp only []
    rw [flatA_snoc A xs t (x, c) hlen, List.length_append]
    exact this
  · simp only [] at h2
    refine ownsRow_setC (ownsRow_grown ?_ h1.a hne2 hg) h.lt v'
    rcases Nat.lt_trichotomy i A.length with hlt | heq | hgt
    · rw [List.getElem?_append_left hlt] at h2
      rw [List.getElem?_append_left (by omega)] at h3
      exact h1.ins i u y d h2 h3
    · subst heq
      rw [List.getElem?_append_right (Nat.le_refl _)] at h2
      rw [List.getElem?_append_right (by omega)] at h3
      simp [hlen] at h2 h3
      subst h2
      obtain ⟨rfl, rfl⟩ := h3
      exact ownsRow_belowT hi hb
    · rw [List.getElem?_eq_none (by simp; omega)] at h2; simp at h2
  · have h2 := hg.size; have h3 := h1.sz
    have e : (w8.setCell ⟨b, 1, none⟩ v').heap.size = w8.heap.size := by simp
    omega
  · have hz : w.heap.size ≤ W1.heap.size := Below.size h1.bl
    have : Below w.heap.size w w8 := Below.grown h1.bl hg hz (fun k hk => by have := (TA.owns_ge h1.a hk).1; have := h.lt; have := h.wb; omega)
    exact this.setCell h.wb _
/-- the build is a build in memory -/
theorem DG.ga {w : World} {N b : Nat} {g : RC.Gr} {vs va : Value} {xs : List (Option Addr × Nat)} {W : World} (h : DG w N b g vs va xs W) : ∃ sa sc aa ac, vs = .slice sa g.1.length sc ∧ va = .slice aa g.2.length ac ∧ GA W.heap.size W g sa sc aa ac := by
  obtain ⟨sa, sc, rfl, _, hs⟩ := Strs.ofOwns h.s
  obtain ⟨aa, ac, rfl⟩ := own_shape h.a
  refine ⟨sa, sc, aa, ac, rfl, rfl, hs, fun i t ht => ?_⟩
  have hi : i < g.2.length := (List.getElem?_eq_some_iff.1 ht).1
  have hl := h.len
  obtain ⟨p, hp⟩ : ∃ p, xs[i]? = some p := ⟨xs[i]'(by omega), List.getElem?_eq_getElem _⟩
  obtain ⟨x, c⟩ := p
  obtain ⟨h0, ⟨_, h2⟩ | ⟨gb, cap, cur, h1, h2, h3, h4, h5, h6, h7⟩⟩ := h.a
  · omega
  · simp only [Value.slice.injEq] at h1
    refine ⟨gb, 0, x, c, h1.1, TA.lt_heap h3, fun j v hv => ?_, strs_of_owns (h.ins i t x c ht hp)⟩
    have hj : j < 3 := by
      have := (List.getElem?_eq_some_iff.1 hv).1
      simpa [acL] using this
    rw [Lib.cell_of_heap h3, Nat.zero_add]
    have h8 : (cur.toList.take (g.2.length * 3))[i * 3 + j]? = (flatA g.2 xs)[i * 3 + j]? := by rw [h7]
    rw [List.getElem?_take_of_lt (by omega), flatA_at g.2 xs i t (x, c) ht hp j hj, hv] at h8
    simpa using h8
theorem DG.weak {w w2 : World} {N b : Nat} {g : RC.Gr} {vs va : Value} {xs : List (Option Addr × Nat)} {W : World} (h : DG w N b g vs va xs W) (hb : Bl w2 W) (hz : w2.heap.size ≤ b) : DG w2 N b g vs va xs W := ⟨h.blk, h.s, h.a, h.len, h.ins, h.lt, h.sz, hz, hb⟩
theorem DG.setRow {w : World} {N b r : Nat} {g : RC.Gr} {vs va : Value} {xs : List (Option Addr × Nat)} {W : World} (h : DG w N b g vs va xs W) (hr : r < b) (hw : w.heap.size ≤ r) (cs : Array Value) : DG w N b g vs va xs (W.setRow r cs) := by
  have hlt := h.lt
  refine ⟨?_, ownsRow_set h.s (by omega) cs, ownsRow_set h.a (by omega) cs, h.len, fun i t x c h1 h2 => ownsRow_set (h.ins i t x c h1 h2) (by omega) cs, h.lt, ?_, h.wb, h.bl.setRow hw cs⟩
  · show (W.heap.modify r _)[b]? = _
    rw [Array.getElem?_modify, if_neg (by omega)]; exact h.blk
  · have := h.sz
    simpa [World.setRow] using this


/-- the result's block and the empty build's -/
def V0 (W : World) : World := (W.alloc (.cells zG 25)).alloc (.cells zG 25)
theorem V0.bl (W : World) : Bl W (V0 W) := ((Bl.refl W).alloc _).alloc _
theorem V0.size (W : World) : (V0 W).heap.size = W.heap.size + 2 := by simp [V0]
theorem V0.blk (W : World) {U : World} (h : Bl (V0 W) U) : U.heap[W.heap.size]? = some (.cells zG 25 (0, 0)) ∧ U.rangeAt (W.heap.size + 1) 0 [.slice none 0 0, .slice none 0 0] := by
  have e : (W.alloc (.cells zG 25)).heap.size = W.heap.size + 1 := by simp
  have h1 : U.heap[W.heap.size + 1]? = some (.cells zG 25 (0, 0)) := by
    rw [Below.block h _ (by rw [V0.size]; omega), ← e]; exact heap_alloc_new _ _
  constructor
  · rw [Below.block h _ (by rw [V0.size]; omega)]
    show ((W.alloc (.cells zG 25)).alloc (.cells zG 25)).heap[W.heap.size]? = _
    rw [Below.block ((Bl.refl (W.alloc (.cells zG 25))).alloc _) _ (by simp)]; exact heap_alloc_new W _
  · intro j u hu
    rw [Lib.cell_of_heap h1, Nat.zero_add]
    rcases j with _ | _ | j
    · cases hu; rfl
    · cases hu; rfl
    · simp at hu
theorem DG.start (W : World) : DG (V0 W) (W.heap.size + 3) (W.heap.size + 2) ([], []) (.slice none 0 0) (.slice none 0 0) [] ((V0 W).alloc (.cells zG 25)) := by
  have e := V0.size W
  refine ⟨?_, ⟨rfl, Or.inl ⟨rfl, rfl⟩⟩, ⟨rfl, Or.inl ⟨rfl, rfl⟩⟩, rfl, fun i t x c h => by simp at h, by omega, by simp; omega, by omega, (Bl.refl _).alloc _⟩
  rw [← e]; exact heap_alloc_new _ _
theorem infoG2 : (Tryd.prog.info? 25).map (·.size) = some [Value.slice none 0 0, Value.slice none 0 0].length := by rw [infoG]; rfl
theorem addL_not (g : RC.Gr) (l : List (List UInt8)) (h : ∀ n, l = [RC.wSource, n] → RC.isNm n = true → g.2 = [] → g.1.length = 8) : RC.addL g l = match rA l with
    | none => none
    | some a => if g.2.length = 12 then none else some (g.1, g.2 ++ [a]) := by
  cases l with
  | nil => rfl
  | cons k r =>
    show (if k = RC.wSource then _ else _) = _
    by_cases hk : k = RC.wSource
    · have e : rA (k :: r) = none := by
        show (if k = RC.wMake then RC.readA r else none) = none
        rw [hk, if_neg (by decide)]
      rw [if_pos hk, e]
      match r with
      | [] => rfl
      | [n] =>
        show (if g.2 = [] ∧ g.1.length ≠ 8 ∧ RC.isNm n = true then some (g.1 ++ [n], g.2) else none) = none
        rw [if_neg]
        rintro ⟨h1, h2, h3⟩
        exact h2 (h n (by rw [hk]) h3 h1)
      | _ :: _ :: _ => rfl
    · rw [if_neg hk]
      show _ = match (if k = RC.wMake then RC.readA r else none) with
        | none => none
        | some a => if g.2.length = 12 then none else some (g.1, g.2 ++ [a])
      by_cases hm : k = RC.wMake
      · rw [if_pos hm, if_pos hm]
        cases RC.readA r <;> rfl
      · rw [if_neg hm, if_neg hm]
theorem cut_here (t : List UInt8) (k : Nat) (h : (10 : UInt8) ∉ t.take k) (hk : t[k]? = some 10) : RC.cutL 10 t = some (t.take k, t.drop (k + 1)) := by
  obtain ⟨hl, he⟩ := List.getElem?_eq_some_iff.1 hk
  have e : t = t.take k ++ 10 :: t.drop (k + 1) := by
    conv => lhs; rw [← List.take_append_drop k t, List.drop_eq_getElem_cons hl, he]
  conv => lhs; rw [e]
  exact RC.cutL_mk 10 _ _ h
/-- an action is appended to a row of one's own -/
theorem wl_appA {ops : Array Oper} {rest : List Oper} {o : Oper} {a : Act} {w : World} {Q : Exit → Act → World → Prop} (hgd : o.guard = none) (s x : Operand)
    (ho : o.op = .call { callee := .builtin .append, args := #[s, x], argTypes := #[23, 23] }) (base n : Nat) (xs : List Value) (v : Value) (hs : a.eval s = v) (hown : w.ownsRow base 42 3 v n xs)
    (g0 : Nat) (t : RC.Ac) (ad : Option Addr) (cc c : Nat) (hx : a.eval x = .slice (some ⟨g0, 0, none⟩) 1 c) (hcell : ∀ (j : Nat) u, (acL t ad cc)[j]? = some u → w.cell? ((⟨g0, 0, none⟩ : Addr).add j) = some u) (hbase : base ≤ w.heap.size) (hn : n ≤ 100000)
    (h : ∀ g cap w', w'.ownsRow base 42 3 (.slice (some ⟨g, 0, none⟩) (n + 1) cap) (n + 1) (xs ++ acL t ad cc) → w.grownBy w' v.ownBlock → wpList Tryd.prog ops Q rest (a.put o.dst (.slice (some ⟨g, 0, none⟩) (n + 1) cap)) w') : wpList Tryd.prog ops Q (o :: rest) a w := by
  obtain ⟨i0, hi0, hz0, hz1, hz2⟩ := TA.info_partsT (show (Tryd.prog.info? 42).map (fun i => (i.zero, i.size, i.bytes)) = some (some (.agg zAc), 3, 56) by kernel_rfl)
  refine wpList_append_lies _ hgd s x 23 ho base 42 i0 (.agg zAc) 3 56 Tryd.underlying23 hi0 hz0 hz1 hz2 rfl (by decide) v n xs hs hown ⟨g0, 0, none⟩ 1 c (acL t ad cc) hx rfl hcell (fun u hu => by simp [acL] at hu; rcases hu with rfl | rfl | rfl <;> rfl) (by decide) (by unfold maxLen; omega) (by omega) hbase w.heap.size rfl (fun g cap w' h1 h2 h3 h4 => ?_)
  exact h g cap w' h1 h2
end Go.Proofs.YtgjpcddjfmdobaaDoor
