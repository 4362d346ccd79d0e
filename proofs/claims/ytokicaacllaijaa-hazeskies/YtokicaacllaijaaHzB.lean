/- Summaries and keys in memory: 64 and 32 cells of bytes each. -/
import Derived.Test.YtokicaacllaijaaHzM
import Derived.Test.YtokicaacllaijaaKB
import Derived.Laws.StructEq
namespace Go.Proofs.Ytokicaacllaijaa
open Go.RowKit
set_option linter.unusedVariables false
set_option linter.unusedSimpArgs false

abbrev tH : TypeId := 28
abbrev tD : TypeId := 25
/-- a byte -/
def vb (x : UInt8) : Value := .int .u8 (x.toNat : Int)
def hC (h : HZ.H) : List Value := h.l.map vb
def dC (k : HZ.D) : List Value := k.l.map vb
theorem hC_len (h : HZ.H) : (hC h).length = 64 := by unfold hC; rw [List.length_map]; exact h.n
theorem dC_len (h : HZ.D) : (dC h).length = 32 := by unfold dC; rw [List.length_map]; exact h.n
theorem hC_one (h : HZ.H) : ∀ u ∈ hC h, u.oneCell' = true := fun u hu => by obtain ⟨x, _, rfl⟩ := List.mem_map.1 hu; rfl
theorem dC_one (h : HZ.D) : ∀ u ∈ dC h, u.oneCell' = true := fun u hu => by obtain ⟨x, _, rfl⟩ := List.mem_map.1 hu; rfl
theorem hC_at (h : HZ.H) {i : Nat} (hi : i < 64) : (hC h)[i]? = some (vb (h.b i)) := by
  unfold hC HZ.H.b; rw [List.getElem?_map, HZ.by8_at (by rw [h.n]; exact hi)]; rfl
theorem dC_at (h : HZ.D) {i : Nat} (hi : i < 32) : (dC h)[i]? = some (vb (h.b i)) := by
  unfold dC HZ.D.b; rw [List.getElem?_map, HZ.by8_at (by rw [h.n]; exact hi)]; rfl
theorem hC_set (h : HZ.H) (i : Nat) (x : UInt8) : (hC h).set i (vb x) = hC (h.set i x) := by unfold hC HZ.H.set; rw [List.map_set]
theorem vb_inj {x y : UInt8} (h : vb x = vb y) : x = y := by
  unfold vb at h; simp only [Value.int.injEq, true_and] at h; exact UInt8.toNat_inj.1 (by omega)
theorem map_vb_inj : ∀ {a b : List UInt8}, a.map vb = b.map vb → a = b
  | [], [], _ => rfl
  | [], y :: b, h => by simp at h
  | x :: a, [], h => by simp at h
  | x :: a, y :: b, h => by
    rw [List.map_cons, List.map_cons, List.cons.injEq] at h
    rw [vb_inj h.1, map_vb_inj h.2]
theorem hC_inj {a b : HZ.H} (h : hC a = hC b) : a = b := HZ.H.ext' (map_vb_inj h)
def lyH : Lay HZ.H := ⟨64, hC, hC_len, hC_one, by decide⟩
def lyD : Lay HZ.D := ⟨32, dC, dC_len, dC_one, by decide⟩
def lyI : Lay Int := ⟨1, fun m => [.int .i64 m], fun _ => rfl, fun x u hu => by simp at hu; subst hu; rfl, by decide⟩
def i64 (k : Int) : Prop := -9223372036854775808 ≤ k ∧ k ≤ 9223372036854775807
theorem undH : Try.prog.underlying tH = some (.array 64 5) := by kernel_rfl
theorem undD : Try.prog.underlying tD = some (.array 32 5) := by kernel_rfl
theorem infoH : (Try.prog.info? tH).map (·.size) = some 64 := by kernel_rfl
theorem infoD : (Try.prog.info? tD).map (·.size) = some 32 := by kernel_rfl
/-- no bits, as a value -/
def zH : Array Value := (hC HZ.zero).toArray
def zD : Array Value := (List.replicate 32 (Value.int .u8 0)).toArray
theorem zeroH (W : World) : (zeroValue tH).run Try.prog W = .ok (.agg zH) W := by kernel_rfl
theorem zeroD (W : World) : (zeroValue tD).run Try.prog W = .ok (.agg zD) W := by kernel_rfl
theorem infoH3 : (Try.prog.info? tH).map (fun i => (i.zero, i.size, i.bytes)) = some (some (.agg zH), 64, 64) := by kernel_rfl
theorem infoD3 : (Try.prog.info? tD).map (fun i => (i.zero, i.size, i.bytes)) = some (some (.agg zD), 32, 32) := by kernel_rfl
theorem zH_size : zH.size = 64 := by unfold zH; simp [hC_len]
theorem zD_size : zD.size = 32 := by unfold zD; simp
theorem all_one {L : List Value} (h : ∀ u ∈ L, u.oneCell' = true) : L.toArray.all (·.oneCell') = true := by simpa using h
theorem wl_midG {P : Program} {ops : Array Oper} {rest : List Oper} {o : Oper} {a : Act} {w : World} {Q : Exit → Act → World → Prop} (hw : Region.wanted o (yielded ops a.tmps) = true) (ty : TypeId) (x : Operand) (ho : o.op = .load ty x)
    (b q : Nat) (hx : a.eval x = .pointer (some ⟨b, q, none⟩)) (cs : List Value) (d : TypeDesc) (hc : w.rangeAt b q cs)
    (hu : P.underlying ty = some d) (hd : d.isRow = true) (hi : (P.info? ty).map (·.size) = some cs.length)
    (h : wpList P ops Q rest (a.put o.dst (.agg cs.toArray)) w) : wpList P ops Q (o :: rest) a w :=
  wpList_step fun _ hK => by rw [if_pos hw]; exact wp_load_mid ty x ho b q hx cs d hc hu hd hi (hK _ _ h)
theorem heap_setCell_own {w : World} {b i : Nat} {C : Array Value} {t : TypeId} {fr : Nat × Nat} {v : Value} (h : w.heap[b]? = some (.cells C t fr)) : (w.setCell ⟨b, i, none⟩ v).heap[b]? = some (.cells (C.setIfInBounds i v) t fr) := by
  show (w.heap.modify b _)[b]? = _
  rw [Array.getElem?_modify, if_pos rfl, h]; rfl
theorem grown_setCell (w : World) (b i : Nat) (v : Value) : w.grownBy (w.setCell ⟨b, i, none⟩ v) (some b) :=
  ⟨rfl, rfl, rfl, by simp [World.setCell], fun k hk hb => Below.heap_setCell _ _ _ _ (fun e => hb (by rw [e]))⟩
/-- one cell of a row is stored: the world behind it by a name of its own -/
theorem wl_setU {P : Program} {ops : Array Oper} {rest : List Oper} {o : Oper} {a : Act} {w : World} {Q : Exit → Act → World → Prop} (hgd : o.guard = none) (ty : TypeId) (x y : Operand) (ho : o.op = .store ty x y) (g i : Nat) (v : Value) (hx : a.eval x = .pointer (some ⟨g, i, none⟩)) (hy : a.eval y = v) (hv : v.oneCell' = true) (hi : (P.info? ty).map (·.size) = some 1)
    (L L' : List Value) (t : TypeId) (hg : w.heap[g]? = some (.cells L.toArray t (0, 0))) (hl : i < L.length) (hL : L.set i v = L')
    (h : ∀ U, U.heap[g]? = some (.cells L'.toArray t (0, 0)) → Of1 g w U → wpList P ops Q rest (a.put o.dst undef) U) : wpList P ops Q (o :: rest) a w := by
  refine wpList_plain hgd fun _ hK => ?_
  have hc : v.cells = #[v] := by cases v <;> first | rfl | cases hv
  have hf : w.frozen? ⟨g, i, none⟩ = false := by simp [World.frozen?, hg]
  have hcell : w.cell? ⟨g, i, none⟩ = some (L[i]) := by rw [Lib.cell_of_heap hg]; simp [hl]
  have hrun : (storeVar ty ⟨g, i, none⟩ v).run P w = .ok () (w.setCell ⟨g, i, none⟩ v) := by
    cases hq : P.info? ty with
    | none => simp [hq] at hi
    | some inf =>
      have hs : inf.size = 1 := by simpa [hq] using hi
      have := run_storeCells_cells (P := P) g i [v] 0 w (fun j hj => by simp at hj; subst hj; simp [hcell]) (fun j hj => by simp at hj; subst hj; simpa using hf) (fun u hu => by simp at hu; rw [hu]; exact hv)
      have e : w.setCells g (i + 0) [v] = w.setCell ⟨g, i, none⟩ v := rfl
      rw [e] at this
      simp [storeVar, sizeOf, typeInfo, hq, hc, hs, this]
  unfold Oper.wp execOp
  simp only [ho, hx, hy, Instr.storeAt, Instr.sureAddr, Sem.run_bind, Sem.run_pure, Result.andThen_ok, hrun]
  refine hK _ _ (h _ ?_ (Of1.of_grown (grown_setCell w g i v)))
  rw [heap_setCell_own hg, List.setIfInBounds_toArray, hL]
theorem of1_setRow (W : World) (b : Nat) (cs : Array Value) : Of1 b W (W.setRow b cs) := ⟨rfl, rfl, rfl, by simp [World.setRow], fun k _ hk => setRow_other W b k cs hk⟩
theorem cell_of {w : World} {b i : Nat} {L : List Value} {t : TypeId} {v : Value} (h : w.heap[b]? = some (.cells L.toArray t (0, 0))) (hi : L[i]? = some v) : w.cell? ⟨b, i, none⟩ = some v := by rw [Lib.cell_of_heap h]; simpa using hi
theorem range_of {w : World} {b : Nat} {L : List Value} {t : TypeId} (h : w.heap[b]? = some (.cells L.toArray t (0, 0))) : w.rangeAt b 0 L := fun j v hv => by rw [Nat.zero_add]; exact cell_of h hv
theorem size_alloc1 (W : World) (o : Obj) : (W.alloc o).heap.size = W.heap.size + 1 := by simp
theorem Bl.box {W w' : World} {C : Array Value} {t : TypeId} (h : Bl (W.alloc (.cells C t)) w') : w'.heap[W.heap.size]? = some (.cells C t (0, 0)) := by
  rw [Below.block h _ (by simp)]; exact heap_alloc_new W _
theorem Bl.up {W w' : World} {o : Obj} (h : Bl (W.alloc o) w') : Bl W w' := Bl.step ((Bl.refl W).alloc o) h
theorem Bl.heap {w0 w : World} (h : Bl w0 w) {b : Nat} {o : Obj} (hb : w0.heap[b]? = some o) : w.heap[b]? = some o := by
  rw [Below.block h _ (lt_heap hb)]; exact hb
/-- a cell of an array by value -/
theorem idx_agg {P : Program} (ty e : TypeId) (n : Nat) (C : Array Value) (i : Nat) (v : Value) (hu : P.underlying ty = some (.array n e)) (hi : i < n) (hs : ∀ W, (sizeOf e).run P W = .ok 1 W) (ha : ∀ W, (isAgg e).run P W = .ok false W) (hv : C[i]? = some v) (W : World) :
    (Instr.index ty (.agg C) (.int .i64 (i : Int))).run P W = .ok v W := by
  have hn : 0 ≤ (i : Int) ∧ (i : Int) < (n : Int) := by omega
  simp [Instr.index, run_underlying hu, asIntOf, hn, go_sem, hs, part, ha, hv]
  intro h; omega
/-- two summaries compared -/
theorem equalB (d : Nat) (x y : UInt8) (W : World) : (Op.equalIn (d + 1) 5 (vb x) (vb y)).run Try.prog W = .ok (decide (x = y)) W := by
  have e : ((x.toNat : Int) == (y.toNat : Int)) = decide (x = y) := by
    by_cases h : x = y
    · subst h; simp
    · have : x.toNat ≠ y.toNat := fun e => h (UInt8.toNat_inj.1 e)
      simp [h]; omega
  simp only [vb, Op.equalIn, Sem.run_bind, run_underlying Try.underlying5, Result.andThen_ok, if_true, Sem.run_pure, e]
theorem partB (A : Array Value) (i : Nat) (v : Value) (h : A[i]? = some v) (W : World) : (part 5 A (i * 1)).run Try.prog W = .ok v W := by
  simp [part, Sem.run_bind, Try.isAgg5, h]
theorem eqLoopB (d : Nat) (a b : HZ.H) (A B : Array Value) (W : World) : ∀ l : List Nat, (∀ i ∈ l, A[i]? = some (vb (a.b i)) ∧ B[i]? = some (vb (b.b i))) →
    ((forIn l ((none, ()) : Option Bool × PUnit) fun i r => do
        let x ← part 5 A (i * 1)
        let y ← part 5 B (i * 1)
        let q ← Op.equalIn (d + 1) 5 x y
        if (!q) = true then pure (ForInStep.done (some false, ())) else pure (ForInStep.yield (none, ())) : Sem (Option Bool × PUnit))).run Try.prog W =
      .ok (if ∀ i ∈ l, a.b i = b.b i then (none, ()) else (some false, ())) W := by
  intro l
  induction l with
  | nil => intro _; simp
  | cons i l ih =>
    intro h
    have h0 := h i (by simp)
    rw [List.forIn_cons]
    simp only [Sem.run_bind, partB A i _ h0.1, partB B i _ h0.2, Result.andThen_ok, equalB]
    by_cases he : a.b i = b.b i
    · have := ih (fun j hj => h j (by simp [hj]))
      rw [show decide (a.b i = b.b i) = true from decide_eq_true he]
      simp only [Bool.not_true, Bool.false_eq_true, if_false, Sem.run_pure, Result.andThen_ok]
      rw [this]
      simp [he]
    · simp [he]
theorem eqH (a b : HZ.H) (W : World) : (Op.equalIn 10000 tH (.agg (hC a).toArray) (.agg (hC b).toArray)).run Try.prog W = .ok (HZ.eqB a b) W := by
  rw [show 10000 = 9998 + 1 + 1 by rfl]
  rw [Op.equalIn]
  simp only [Sem.run_bind, run_underlying undH, Result.andThen_ok, Try.sizeOf5]
  rw [Std.Legacy.Range.forIn_eq_forIn_range']
  have hl : ∀ i ∈ List.range' 0 64 1, (hC a).toArray[i]? = some (vb (a.b i)) ∧ (hC b).toArray[i]? = some (vb (b.b i)) := fun i hi => by
    have : i < 64 := by simp [List.mem_range'] at hi; omega
    exact ⟨by simpa using hC_at a this, by simpa using hC_at b this⟩
  have h := eqLoopB 9998 a b (hC a).toArray (hC b).toArray W (List.range' 0 64 1) hl
  show ((Sem.run Try.prog (forIn (List.range' 0 64 1) _ _) W).andThen _) = _
  rw [h]
  by_cases he : a = b
  · subst he; simp [HZ.eqB_self]
  · have hne : ¬ ∀ i ∈ List.range' 0 64 1, a.b i = b.b i := fun hall => he (HZ.H.ext_b (fun j hj => hall j (by simp [List.mem_range']; omega)))
    rw [if_neg hne, HZ.eqB_ne he]; simp
end Go.Proofs.Ytokicaacllaijaa
