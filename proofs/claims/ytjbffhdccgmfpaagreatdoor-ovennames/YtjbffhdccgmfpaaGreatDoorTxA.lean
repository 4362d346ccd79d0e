/- Texts appended to a row of one's own. -/
import Derived.Test.YtjbffhdccgmfpaaGreatDoorArgs
import Derived.Laws.AppendOwnNone
import Derived.Deep.AppendLies
import Derived.Deep.MidRow
namespace Go.Proofs.YtjbffhdccgmfpaaGreatDoor.TA
open Go.RowKit
set_option linter.unusedVariables false
set_option linter.unusedSimpArgs false

/-- texts as a slice -/
def TS (W : World) (a : Option Addr) (l : List (List UInt8)) : Prop := ∀ (i : Nat) (t : List UInt8), l[i]? = some t → ∃ sb off, a = some ⟨sb, off, none⟩ ∧ sb < W.heap.size ∧ W.cell? ⟨sb, off + i, none⟩ = some (.string (M.bs t))
theorem TS.below {W W' : World} {a : Option Addr} {l : List (List UInt8)} (h : TS W a l) (hb : Below W.heap.size W W') : TS W' a l := fun i t ht => by
  obtain ⟨sb, off, h1, h2, h3⟩ := h i t ht
  exact ⟨sb, off, h1, by have := hb.size; omega, by rw [hb.cell (p := ⟨sb, off + i, none⟩) h2]; exact h3⟩
theorem ts_of {W : World} {a : Option Addr} {n c : Nat} {l : List (List UInt8)} (h : Strs W.heap.size W (.slice a n c) l) : TS W a l := by
  intro i t ht
  rcases h with ⟨rfl, _⟩ | ⟨b, off, cap, e, hb, hc⟩
  · simp at ht
  · simp only [Value.slice.injEq] at e
    exact ⟨b, off, e.1, hb, hc i t ht⟩
theorem lt_heap {W : World} {b : Nat} {o : Obj} (h : W.heap[b]? = some o) : b < W.heap.size := by
  rcases Nat.lt_or_ge b W.heap.size with h' | h'
  · exact h'
  · rw [Array.getElem?_eq_none h'] at h; simp at h
theorem owns_ge {N n : Nat} {W : World} {e : TypeId} {k : Nat} {v : Value} {xs : List Value} (h : W.ownsRow N e k v n xs) {g : Nat} (hg : v.ownBlock = some g) : N ≤ g ∧ g < W.heap.size := by
  obtain ⟨h0, ⟨h1, _⟩ | ⟨g', cap, cur, h1, h2, h3, h4⟩⟩ := h
  · subst h1; cases hg
  · subst h1
    cases hg
    exact ⟨h2, lt_heap h3⟩
theorem info_partsT {o : Option TypeInfo} {z : Option Value} {s b : Nat} (h : o.map (fun i => (i.zero, i.size, i.bytes)) = some (z, s, b)) : ∃ i, o = some i ∧ i.zero = z ∧ i.size = s ∧ i.bytes = b := by
  cases o with
  | none => simp at h
  | some i => simp at h; exact ⟨i, rfl, h.1, h.2.1, h.2.2⟩
theorem undS : Tryz.prog.underlying 22 = some (.slice 9) := Tryz.underlying22
/-- a block just made is a row of one's own -/
theorem own_new (W : World) (ks : List (List UInt8)) (h : ks.length ≤ maxLen) : (W.alloc (.cells (ks.map encS).toArray 9)).ownsRow W.heap.size 9 1 (.slice (some ⟨W.heap.size, 0, none⟩) ks.length ks.length) ks.length (ks.map encS) := by
  refine ⟨by simp, Or.inr ⟨W.heap.size, ks.length, _, rfl, Nat.le_refl _, heap_alloc_new W _, Nat.le_refl _, h, by simp, ?_⟩⟩
  simp [List.take_of_length_le]
theorem ts_new (W : World) (ks : List (List UInt8)) (T : TypeId) : TS (W.alloc (.cells (ks.map encS).toArray T)) (some ⟨W.heap.size, 0, none⟩) ks := by
  intro i t ht
  refine ⟨W.heap.size, 0, rfl, by simp, ?_⟩
  rw [Lib.cell_of_heap (heap_alloc_new W _), Nat.zero_add]
  simp [ht, encS]
theorem owns_cap {N : Nat} {W : World} {v : Value} {n : Nat} {xs : List Value} (h : W.ownsRow N 9 1 v n xs) : ∃ a c, v = .slice a n c ∧ n ≤ c := by
  obtain ⟨h0, ⟨rfl, rfl⟩ | ⟨g, cap, cur, rfl, h2, h3, h4, _⟩⟩ := h
  · exact ⟨none, 0, rfl, Nat.le_refl _⟩
  · exact ⟨_, cap, rfl, h4⟩
/-- texts are appended to a row of one's own -/
theorem wl_app {ops : Array Oper} {rest : List Oper} {o : Oper} {a : Act} {w : World} {Q : Exit → Act → World → Prop} (hgd : o.guard = none) (s x : Operand)
    (ho : o.op = .call { callee := .builtin .append, args := #[s, x], argTypes := #[22, 22] }) (base : Nat) (ks : List (List UInt8)) (v : Value) (hs : a.eval s = v) (hown : w.ownsRow base 9 1 v ks.length (ks.map encS))
    (ad : Option Addr) (l : List (List UInt8)) (n c : Nat) (hn0 : n = l.length) (hx : a.eval x = .slice ad n c) (hl : TS w ad l) (hbase : base ≤ w.heap.size) (hn : ks.length + l.length ≤ 100000)
    (h : ∀ v' w', w'.ownsRow base 9 1 v' (ks ++ l).length ((ks ++ l).map encS) → w.grownBy w' v.ownBlock → wpList Tryz.prog ops Q rest (a.put o.dst v') w') : wpList Tryz.prog ops Q (o :: rest) a w := by
  subst hn0
  obtain ⟨i0, hi0, hz0, hz1, hz2⟩ := info_partsT (show (Tryz.prog.info? 9).map (fun i => (i.zero, i.size, i.bytes)) = some (some (.string ⟨#[]⟩), 1, 16) by kernel_rfl)
  by_cases h0 : l = []
  · subst h0
    refine wpList_plain hgd fun K hK => ?_
    have hrun : (Builtin.append_ #[22, 22] o.type #[v, .slice ad 0 c]).run Tryz.prog w = .ok v w := by
      have hld : ∀ a : Addr, (loadCells a 0).run Tryz.prog w = .ok #[] w := fun a => by simp [loadCells, loadCellsFrom]
      rcases hown.2 with ⟨rfl, hh⟩ | ⟨g, cap, cur, rfl, _, _, hnc, _⟩ <;> cases ad
      · simp [Builtin.append_, run_underlying undS, sizeOf, typeInfo, hi0, Builtin.lenOf, Builtin.firstCells, hh]
      · simp [Builtin.append_, run_underlying undS, sizeOf, typeInfo, hi0, Builtin.lenOf, Builtin.firstCells, hh, hld]
      · simp [Builtin.append_, run_underlying undS, sizeOf, typeInfo, hi0, Builtin.lenOf, Builtin.firstCells, hnc, storeCells]
      · simp [Builtin.append_, run_underlying undS, sizeOf, typeInfo, hi0, Builtin.lenOf, Builtin.firstCells, hnc, storeCells, hld]
    have hK' := hK _ _ (h v w (by simpa using hown) ⟨rfl, rfl, rfl, Nat.le_refl _, fun _ _ _ => rfl⟩)
    have hx' : a.eval x = .slice ad 0 c := hx
    unfold Oper.wp
    simp [execOp, ho, resolve, invoke, builtin, hs, hx', hrun, Result.andThen]
    exact hK'
  · have hpos : 0 < l.length := List.length_pos_iff.2 h0
    obtain ⟨t0, ht0⟩ : ∃ t0, l[0]? = some t0 := ⟨l[0], List.getElem?_eq_getElem hpos⟩
    obtain ⟨sb, off, rfl, _, _⟩ := hl 0 t0 ht0
    refine wpList_append_lies _ hgd s x 22 ho base 9 i0 (.string ⟨#[]⟩) 1 16 undS hi0 hz0 hz1 hz2 rfl (by decide) v ks.length (ks.map encS) hs hown ⟨sb, off, none⟩ l.length c (l.map encS) hx (by simp) (fun j u hu => ?_) (fun u hu => by obtain ⟨t, _, rfl⟩ := List.mem_map.1 hu; rfl) hpos (by unfold maxLen; omega) (by omega) hbase w.heap.size rfl (fun g cap w' h1 h2 h3 h4 => ?_)
    · rw [Addr.add_mid]
      rw [List.getElem?_map] at hu
      cases hp : l[j]? with
      | none => rw [hp] at hu; simp at hu
      | some t =>
        rw [hp] at hu
        simp only [Option.map_some, Option.some.injEq] at hu
        subst hu
        obtain ⟨sb', off', e, _, hc⟩ := hl j t hp
        cases e
        exact hc
    · exact h _ w' (by rw [List.length_append, List.map_append]; exact h1) h2
end Go.Proofs.YtjbffhdccgmfpaaGreatDoor.TA
