/- Things of a row of one's own written anew; what is cleared behind them. -/
import Derived.Test.YtebmgajijjhinaaKB
import Derived.Laws.CopyOwn
namespace Go.Proofs.Ytebmgajijjhinaa
open Go.RowKit
set_option linter.unusedVariables false
set_option linter.unusedSimpArgs false

def setL : List Value → Nat → List Value → List Value
  | l, _, [] => l
  | l, o, v :: r => setL (l.set o v) (o + 1) r
theorem setL_len : ∀ (vs : List Value) (l : List Value) (o : Nat), (setL l o vs).length = l.length
  | [], l, o => rfl
  | v :: r, l, o => by rw [setL, setL_len r]; simp
theorem setL_take : ∀ (vs : List Value) (l : List Value) (o n : Nat), (setL l o vs).take n = setL (l.take n) o vs
  | [], l, o, n => rfl
  | v :: r, l, o, n => by rw [setL, setL_take r, List.take_set, setL]
theorem setL_app : ∀ (vs : List Value) (a l : List Value) (o : Nat), setL (a ++ l) (a.length + o) vs = a ++ setL l o vs
  | [], a, l, o => rfl
  | v :: r, a, l, o => by
    rw [setL, setL, List.set_append_right _ _ (by omega), Nat.add_sub_cancel_left, Nat.add_assoc, setL_app r a]
theorem setL_zero : ∀ (vs x z : List Value), x.length = vs.length → setL (x ++ z) 0 vs = vs ++ z
  | [], x, z, h => by rw [List.length_eq_zero_iff.1 h]; rfl
  | v :: r, [], z, h => by simp at h
  | v :: r, y :: x, z, h => by
    rw [setL, List.cons_append, List.set_cons_zero]
    have := setL_app r [v] (x ++ z) 0
    simp only [List.length_singleton, List.singleton_append] at this
    rw [this, setL_zero r x z (by simpa using h)]
    rfl
/-- a thing of a row written anew -/
theorem flG_set {α : Type} (E : Lay α) : ∀ (L : List α) (i : Nat) (x : α), i < L.length → flG E (L.set i x) = setL (flG E L) (i * E.k) (E.f x)
  | [], i, x, h => by simp at h
  | y :: r, 0, x, h => by
    rw [Nat.zero_mul, List.set_cons_zero]
    unfold flG
    rw [List.flatMap_cons, List.flatMap_cons, setL_zero _ _ _ (by rw [E.len, E.len])]
  | y :: r, i + 1, x, h => by
    have ih := flG_set E r i x (by simpa using h)
    unfold flG at ih ⊢
    rw [List.set_cons_succ, List.flatMap_cons, List.flatMap_cons, ih]
    have := setL_app (E.f x) (E.f y) (r.flatMap E.f) (i * E.k)
    rw [E.len] at this
    rw [← this, show (i + 1) * E.k = E.k + i * E.k by rw [Nat.add_mul, Nat.one_mul]; omega]
def setA : Array Value → Nat → List Value → Array Value
  | c, _, [] => c
  | c, o, v :: r => setA (c.setIfInBounds o v) (o + 1) r
theorem setA_list : ∀ (vs : List Value) (c : Array Value) (o : Nat), (setA c o vs).toList = setL c.toList o vs
  | [], c, o => rfl
  | v :: r, c, o => by rw [setA, setA_list r, setL, Array.toList_setIfInBounds]
theorem setA_size (vs : List Value) (c : Array Value) (o : Nat) : (setA c o vs).size = c.size := by
  rw [← Array.length_toList, setA_list, setL_len, Array.length_toList]
theorem heap_setCell_own {w : World} {b i : Nat} {C : Array Value} {t : TypeId} {fr : Nat × Nat} {v : Value} (h : w.heap[b]? = some (.cells C t fr)) : (w.setCell ⟨b, i, none⟩ v).heap[b]? = some (.cells (C.setIfInBounds i v) t fr) := by
  show (w.heap.modify b _)[b]? = _
  rw [Array.getElem?_modify, if_pos rfl, h]; rfl
theorem heap_setCells : ∀ (vs : List Value) {w : World} {b o : Nat} {C : Array Value} {t : TypeId} {fr : Nat × Nat}, w.heap[b]? = some (.cells C t fr) → (w.setCells b o vs).heap[b]? = some (.cells (setA C o vs) t fr)
  | [], w, b, o, C, t, fr, h => h
  | v :: r, w, b, o, C, t, fr, h => heap_setCells r (heap_setCell_own h)
theorem grown_setCell (w : World) (b i : Nat) (v : Value) : w.grownBy (w.setCell ⟨b, i, none⟩ v) (some b) :=
  ⟨rfl, rfl, rfl, by simp [World.setCell], fun k hk hb => Below.heap_setCell _ _ _ _ (fun e => hb (by rw [e]))⟩
theorem grown_refl (w : World) (o : Option Nat) : w.grownBy w o := ⟨rfl, rfl, rfl, Nat.le_refl _, fun _ _ _ => rfl⟩
theorem grown_bl {w w' : World} (h : Bl w w') (o : Option Nat) : w.grownBy w' o := ⟨h.os, h.tape, h.output, h.size, fun k hk _ => h.block k hk⟩
theorem grown_setCells : ∀ (vs : List Value) (w : World) (b o : Nat), w.grownBy (w.setCells b o vs) (some b)
  | [], w, b, o => grown_refl w _
  | v :: r, w, b, o => (grown_setCell w b o v).trans (grown_setCells r _ b (o + 1))
theorem owns_there {α : Type} (E : Lay α) {W : World} {N g n cap : Nat} {T : TypeId} {L : List α} (h : W.ownsRow N T E.k (.slice (some ⟨g, 0, none⟩) n cap) n (flG E L)) {i m o : Nat} (hm : i * E.k + o + m ≤ n * E.k) : W.there g (i * E.k + o) m := by
  obtain ⟨h0, ⟨h1, h2⟩ | ⟨g', cap', cur, h1, h2, h3, h4, h5, h6, h7⟩⟩ := h
  · cases h1
  · simp only [Value.slice.injEq, Option.some.injEq, Addr.mk.injEq, true_and, and_true] at h1
    obtain ⟨rfl, rfl⟩ := h1
    have : n * E.k ≤ cap * E.k := Nat.mul_le_mul_right _ h4
    intro j hj
    refine ⟨?_, by simp [World.frozen?, h3]⟩
    rw [Lib.cell_of_heap h3, Array.getElem?_eq_getElem (by omega)]; rfl
/-- a thing of a row of one's own written anew -/
theorem own_setG {α : Type} (E : Lay α) {W : World} {N g n cap : Nat} {T : TypeId} {L : List α} (hn : n = L.length) (h : W.ownsRow N T E.k (.slice (some ⟨g, 0, none⟩) n cap) n (flG E L)) {i : Nat} (hi : i < L.length) (x : α) :
    (W.setCells g (i * E.k) (E.f x)).ownsRow N T E.k (.slice (some ⟨g, 0, none⟩) n cap) n (flG E (L.set i x)) := by
  obtain ⟨h0, ⟨h1, h2⟩ | ⟨g', cap', cur, h1, h2, h3, h4, h5, h6, h7⟩⟩ := h
  · cases h1
  · simp only [Value.slice.injEq, Option.some.injEq, Addr.mk.injEq, true_and, and_true] at h1
    obtain ⟨rfl, rfl⟩ := h1
    refine ⟨by rw [flG_len, List.length_set, hn], Or.inr ⟨g, cap, _, rfl, h2, heap_setCells _ h3, h4, h5, by rw [setA_size]; exact h6, ?_⟩⟩
    rw [setA_list, setL_take, h7, flG_set E L i x hi]
theorem setL_out : ∀ (vs : List Value) (l : List Value) (o n : Nat), n ≤ o → (setL l o vs).take n = l.take n
  | [], l, o, n, h => rfl
  | v :: r, l, o, n, h => by rw [setL, setL_out r _ _ _ (by omega), List.take_set, List.set_eq_of_length_le (by simp; omega)]
/-- a row of one's own cut; what lies behind is written over -/
theorem own_cut {α : Type} (E : Lay α) {W : World} {N g n cap : Nat} {T : TypeId} {L : List α} (hn : n = L.length) (h : W.ownsRow N T E.k (.slice (some ⟨g, 0, none⟩) n cap) n (flG E L)) {i : Nat} (hi : i ≤ L.length) (vs : List Value) :
    (W.setCells g (i * E.k) vs).ownsRow N T E.k (.slice (some ⟨g, 0, none⟩) i cap) i (flG E (L.take i)) := by
  obtain ⟨h0, ⟨h1, h2⟩ | ⟨g', cap', cur, h1, h2, h3, h4, h5, h6, h7⟩⟩ := h
  · cases h1
  · simp only [Value.slice.injEq, Option.some.injEq, Addr.mk.injEq, true_and, and_true] at h1
    obtain ⟨rfl, rfl⟩ := h1
    have hle : i * E.k ≤ n * E.k := Nat.mul_le_mul_right _ (by omega)
    refine ⟨by rw [flG_len, List.length_take, Nat.min_eq_left hi], Or.inr ⟨g, cap, _, rfl, h2, heap_setCells _ h3, by omega, h5, by rw [setA_size]; exact h6, ?_⟩⟩
    rw [setA_list, setL_out _ _ _ _ (Nat.le_refl _)]
    have e1 : cur.toList.take (i * E.k) = (cur.toList.take (n * E.k)).take (i * E.k) := by rw [List.take_take, Nat.min_eq_left hle]
    rw [e1, h7]
    have e2 : flG E L = flG E (L.take i) ++ flG E (L.drop i) := by rw [← flG_app, List.take_append_drop]
    rw [e2, List.take_append_of_le_length (by rw [flG_len, List.length_take, Nat.min_eq_left hi]; exact Nat.le_refl _), List.take_of_length_le (by rw [flG_len, List.length_take, Nat.min_eq_left hi]; exact Nat.le_refl _)]
/-- clear of the end of a row of one's own -/
theorem run_clearG {α : Type} (E : Lay α) {W : World} {N g n cap : Nat} {T TS : TypeId} {L : List α} (hn : n = L.length) (h : W.ownsRow N T E.k (.slice (some ⟨g, 0, none⟩) n cap) n (flG E L)) (hT : Try.prog.underlying TS = some (.slice T)) {z : Value} (hv : ∀ w, (zeroValue T).run Try.prog w = .ok z w) (hz : z.cells.size = E.k) (h1 : ∀ v ∈ z.cells.toList, v.oneCell' = true) {i : Nat} (hi : i < n) (ty : TypeId) (c : Nat) :
    ∃ vs, (Builtin.clear_ #[TS] ty #[.slice (some ⟨g, i * E.k, none⟩) (n - i) c]).run Try.prog W = .ok (.tuple #[]) (W.setCells g (i * E.k) vs) := by
  refine ⟨(Builtin.zeroCells z.cells (n - i)).toList, ?_⟩
  have hk := E.pos
  have hl : (Builtin.zeroCells z.cells (n - i)).toList.length = (n - i) * E.k := by simp [Builtin.zeroCells, hz]
  have hth := owns_there E h (i := i) (o := 0) (m := (n - i) * E.k) (by rw [Nat.add_zero, ← Nat.add_mul]; exact Nat.mul_le_mul_right _ (by omega))
  have hst := run_storeCells_cells (P := Try.prog) g (i * E.k) (Builtin.zeroCells z.cells (n - i)).toList 0 W (fun j hj => by rw [hl] at hj; exact (hth j hj).1) (fun j hj => by rw [hl] at hj; exact (hth j hj).2) (by
    intro v hv'
    simp only [Builtin.zeroCells, Array.toList_map, List.mem_map] at hv'
    obtain ⟨q, _, rfl⟩ := hv'
    have hq : q % z.cells.size < z.cells.size := Nat.mod_lt _ (by omega)
    rw [getElem!_pos z.cells _ hq]
    exact h1 _ (Array.getElem_mem_toList hq))
  simp only [Nat.add_zero] at hst
  obtain ⟨m, hm⟩ : ∃ m, n - i = m + 1 := ⟨n - i - 1, by omega⟩
  rw [hm] at hst ⊢
  simp [Builtin.clear_, run_underlying hT, hv, hst]
/-- a store into the middle of a row; the world behind it by a name of its own -/
theorem wl_storeTo {ops : Array Oper} {rest : List Oper} {op : Oper} {a : Act} {w : World} {Q : Exit → Act → World → Prop} (hgd : op.guard = none) (ty : TypeId) (x y : Operand) (ho : op.op = .store ty x y)
    (b o : Nat) (cs : List Value) (hx : a.eval x = .pointer (some ⟨b, o, none⟩)) (hy : a.eval y = .agg cs.toArray)
    (ht : w.there b o cs.length) (hi : (Try.prog.info? ty).map (·.size) = some cs.length) (h1 : ∀ v ∈ cs, v.oneCell' = true) (U : World) (hU : w.setCells b o cs = U)
    (h : wpList Try.prog ops Q rest (a.put op.dst undef) U) : wpList Try.prog ops Q (op :: rest) a w := by
  subst hU
  exact wpList_store_mid hgd ty x y ho b o cs.toArray hx hy ht hi (all_oneCell_toArray h1) h
end Go.Proofs.Ytebmgajijjhinaa
