/- Stores and loads as steps; a row stored: the world behind it by a name of its own. -/
import Derived.Test.YtokicaacllaijaaHz1
import Derived.Test.YtokicaacllaijaaRegT
namespace Go.Proofs.Ytokicaacllaijaa
open Go.RowKit
set_option linter.unusedVariables false
set_option linter.unusedSimpArgs false

theorem stepo_setU {P : Program} {ops : Array Oper} {o : Oper} {a : Act} {w : World} {K : Act → World → Prop} {Q : Exit → Act → World → Prop} {E : Prop} (hgd : o.guard = none) (ty : TypeId) (x y : Operand) (ho : o.op = .store ty x y) (g i : Nat) (v : Value) (hx : a.eval x = .pointer (some ⟨g, i, none⟩)) (hy : a.eval y = v) (hv : v.oneCell' = true) (hi : (P.info? ty).map (·.size) = some 1)
    (L L' : List Value) (t : TypeId) (hg : w.heap[g]? = some (.cells L.toArray t (0, 0))) (hl : i < L.length) (hL : L.set i v = L')
    (h : ∀ U, U.heap[g]? = some (.cells L'.toArray t (0, 0)) → Of1 g w U → K (a.put o.dst undef) U) : if Region.wanted o (yielded ops a.tmps) = true then Oper.wp P o a w K Q else E := by
  have hw : Region.wanted o (yielded ops a.tmps) = true := by simp [Region.wanted, hgd]
  rw [if_pos hw]
  have hc : v.cells = #[v] := by cases v <;> first | rfl | cases hv
  have hf : w.frozen? ⟨g, i, none⟩ = false := by simp [World.frozen?, hg]
  have hcell : w.cell? ⟨g, i, none⟩ = some (L[i]) := by rw [Lib.cell_of_heap hg]; simp [hl]
  have hrun : (storeVar ty ⟨g, i, none⟩ v).run P w = .ok () (w.setCell ⟨g, i, none⟩ v) := by
    cases hq : P.info? ty with
    | none => simp [hq] at hi
    | some inf =>
      have hs : inf.size = 1 := by simpa [hq] using hi
      have := run_storeCells_cells (P := P) g i [v] 0 w (fun j hj => by simp at hj; subst hj; simp [hcell]) (fun j hj => by simp at hj; subst hj; simpa using hf) (fun u hu => by simp at hu; rw [hu]; exact hv)
      have e : w.setCells g (i + 0) [v] = w.setCell ⟨g, i, none⟩ v := rfl
      rw [e] at this
      simp [storeVar, sizeOf, typeInfo, hq, hc, hs, this]
  unfold Oper.wp execOp
  simp only [ho, hx, hy, Instr.storeAt, Instr.sureAddr, Sem.run_bind, Sem.run_pure, Result.andThen_ok, hrun]
  refine h _ ?_ (Of1.of_grown (grown_setCell w g i v))
  rw [heap_setCell_own hg, List.setIfInBounds_toArray, hL]
theorem stepo_loadU {P : Program} {ops : Array Oper} {o : Oper} {a : Act} {w : World} {K : Act → World → Prop} {Q : Exit → Act → World → Prop} {E : Prop} (hgd : o.guard = none) (ty : TypeId) (x : Operand) (ho : o.op = .load ty x) (g i : Nat) (hx : a.eval x = .pointer (some ⟨g, i, none⟩)) (v : Value) (hc : w.cell? ⟨g, i, none⟩ = some v) (hagg : (isAgg ty).run P w = .ok false w)
    (h : K (a.put o.dst v) w) : if Region.wanted o (yielded ops a.tmps) = true then Oper.wp P o a w K Q else E := by
  have hw : Region.wanted o (yielded ops a.tmps) = true := by simp [Region.wanted, hgd]
  rw [if_pos hw]
  have hl : (loadVar ty ⟨g, i, none⟩).run P w = .ok v w := by simp [loadVar, Sem.run_bind, hagg, hc]
  unfold Oper.wp execOp
  simp only [ho, hx, Instr.loadAt, Instr.sureAddr, Sem.run_bind, Sem.run_pure, Result.andThen_ok, hl]
  exact h
/-- a row is stored into a block: the world behind it by a name of its own -/
theorem wl_rowU {P : Program} {ops : Array Oper} {rest : List Oper} {o : Oper} {a : Act} {w : World} {Q : Exit → Act → World → Prop} (hgd : o.guard = none) (ty : TypeId) (x y : Operand) (ho : o.op = .store ty x y)
    (g : Nat) (C : List Value) (hx : a.eval x = .pointer (some ⟨g, 0, none⟩)) (hy : a.eval y = .agg C.toArray)
    (t : TypeId) (old : Array Value) (hg : w.heap[g]? = some (.cells old t (0, 0))) (n : Nat) (hi : (P.info? ty).map (·.size) = some n) (hC : C.length = n) (hold : old.size = n) (h1 : ∀ u ∈ C, u.oneCell' = true)
    (h : ∀ U, U.heap[g]? = some (.cells C.toArray t (0, 0)) → Of1 g w U → U.heap.size = w.heap.size → wpList P ops Q rest (a.put o.dst undef) U) : wpList P ops Q (o :: rest) a w :=
  wpList_store_row hgd ty x y ho g C.toArray hx hy t old hg (by simpa [hC] using hi) (by simp [hC, hold]) (all_one h1) (h _ (setRow_heap w g old C.toArray t (0, 0) hg) (of1_setRow w g _) (by simp [World.setRow]))
/-- a struct or an array built of parts -/
theorem wl_build {P : Program} {ops : Array Oper} {rest : List Oper} {o : Oper} {a : Act} {w : World} {Q : Exit → Act → World → Prop} (hg : o.guard = none) (t : TypeId) (parts : Array (Nat × Operand)) (ho : o.op = .build t parts) (L : List (Nat × Value)) (hp : (parts.map fun (i, x) => (i, a.eval x)).toList = L) (C : Array Value) (hf : P.built t L = some C)
    (h : wpList P ops Q rest (a.put o.dst (.agg C)) w) : wpList P ops Q (o :: rest) a w := by
  subst hp
  exact wpList_build hg t parts ho (by rw [hf]; rfl) (by rw [hf]; exact h)
theorem yi_buildP {P : Program} {ops : Array Oper} {S : World → Prop} {o : Oper} {a : Act} {t : TypeId} {ps : Array (Nat × Operand)} {C : Array Value} (hw : Region.wanted o (yielded ops a.tmps) = true) (ho : o.op = .build t ps) (parts : Array (Nat × Value)) (hp : ps.toList.map (fun p => (p.1, a.eval p.2)) = parts.toList) (hf : P.built t parts.toList = some C) : YieldsIf P ops S o (.agg C) a :=
  .inl ⟨hw, fun w _ => by
    have hp' : (ps.map fun (i, x) => (i, a.eval x)) = parts := by rw [← Array.toList_inj, Array.toList_map]; exact hp
    unfold execOp; simp only [ho, hp', Sem.run_bind, run_build w t parts C hf, Result.andThen_ok, Sem.run_pure]⟩
theorem builtH : Try.prog.built tH [] = some zH := by kernel_rfl
theorem or_val (x y : UInt8) : bits .or .u8 (x.toNat : Int) (y.toNat : Int) = ((x ||| y).toNat : Int) := by
  rw [u8_or_nat _ _ x.toNat_lt y.toNat_lt, UInt8.toNat_or]
/-- a slice of keys, one of them in its row -/
theorem RS.at {α : Type} {E : Lay α} {W : World} {a : Option Addr} {l : List α} (h : RS E W a l) {i : Nat} {x : α} (hx : l[i]? = some x) : ∃ b off, a = some ⟨b, off, none⟩ ∧ b < W.heap.size ∧ W.rangeAt b (off + i * E.k) (E.f x) := h i x hx
end Go.Proofs.Ytokicaacllaijaa
