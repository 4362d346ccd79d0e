/- Tell: frames are sent. -/
import Derived.Test.YtebmgajijjhinaaSoG
namespace Go.Proofs.Ytebmgajijjhinaa
open Go.RowKit Go.Maps
set_option linter.unusedVariables false
set_option linter.unusedSimpArgs false

/-- a frame that is sent, with where its rumours lie -/
structure Sn where
  dst : Int
  kind : Int
  frm : Int
  seq : Int
  node : Int
  ra : Option Addr
  rn : Nat
  rc : Nat
def lyS : Lay Sn := ⟨238, fun x => snL x.dst x.kind x.frm x.seq x.node zM (.slice x.ra x.rn x.rc), fun x => snL_len zM_len, fun x => snL_one zM_one rfl, by decide⟩
/-- it says what f says -/
structure SN (W : World) (X : Nat → Prop) (y : Sn) (z : SO.Fr) : Prop where
  d : y.dst = z.dst
  k : y.kind = z.kind
  f : y.frm = z.frm
  s : y.seq = z.seq
  n : y.node = z.node
  l : y.rn = z.rum.length
  r : RS lyM W y.ra z.rum
  x : ∀ g off, y.ra = some ⟨g, off, none⟩ → X g ∧ g < W.heap.size
theorem SN.keep {W W' : World} {X X' : Nat → Prop} {y : Sn} {f : SO.Fr} (h : SN W X y f) (hs : W.heap.size ≤ W'.heap.size) (hk : ∀ g, X g → g < W.heap.size → W'.heap[g]? = W.heap[g]? ∧ X' g) : SN W' X' y f := by
  refine ⟨h.d, h.k, h.f, h.s, h.n, h.l, fun i m hm => ?_, fun g off e => ?_⟩
  · obtain ⟨b, off, e1, e2, e3⟩ := h.r i m hm
    have hx := h.x b off e1
    have e := (hk b hx.1 hx.2).1
    exact ⟨b, off, e1, by omega, fun j v hv => by rw [World.cell?_of_block e]; exact e3 j v hv⟩
  · have hx := h.x g off e
    exact ⟨(hk g hx.1 hx.2).2, by omega⟩
/-- frames as a slice -/
structure FRS (W : World) (X : Nat → Prop) (a : Option Addr) (ys : List Sn) (fs : List SO.Fr) : Prop where
  len : ys.length = fs.length
  rs : RS lyS W a ys
  xa : ∀ g off, a = some ⟨g, off, none⟩ → X g ∧ g < W.heap.size
  each : ∀ (i : Nat) (y : Sn) (f : SO.Fr), ys[i]? = some y → fs[i]? = some f → SN W X y f
theorem FRS.keep {W W' : World} {X X' : Nat → Prop} {a : Option Addr} {ys : List Sn} {fs : List SO.Fr} (h : FRS W X a ys fs) (hs : W.heap.size ≤ W'.heap.size) (hk : ∀ g, X g → g < W.heap.size → W'.heap[g]? = W.heap[g]? ∧ X' g) : FRS W' X' a ys fs := by
  refine ⟨h.len, fun i x hx => ?_, fun g off e => ?_, fun i y f h1 h2 => (h.each i y f h1 h2).keep hs hk⟩
  · obtain ⟨b, off, e1, e2, e3⟩ := h.rs i x hx
    have hx := h.xa b off e1
    have e := (hk b hx.1 hx.2).1
    exact ⟨b, off, e1, by omega, fun j v hv => by rw [World.cell?_of_block e]; exact e3 j v hv⟩
  · have hx := h.xa g off e
    exact ⟨(hk g hx.1 hx.2).2, by omega⟩
theorem FRS.nil (W : World) (X : Nat → Prop) : FRS W X none [] [] := ⟨rfl, RS.nil _ _ _, (fun g off e => by cases e), (fun i y f h => by simp at h)⟩
/-- one cell of a row is stored: the world behind it by a name of its own -/
theorem wl_setU {P : Program} {ops : Array Oper} {rest : List Oper} {o : Oper} {a : Act} {w : World} {Q : Exit → Act → World → Prop} (hgd : o.guard = none) (ty : TypeId) (x y : Operand) (ho : o.op = .store ty x y) (g i : Nat) (v : Value) (hx : a.eval x = .pointer (some ⟨g, i, none⟩)) (hy : a.eval y = v) (hv : v.oneCell' = true) (hi : (P.info? ty).map (·.size) = some 1)
    (L L' : List Value) (t : TypeId) (hg : w.heap[g]? = some (.cells L.toArray t (0, 0))) (hl : i < L.length) (hL : L.set i v = L')
    (h : ∀ U, U.heap[g]? = some (.cells L'.toArray t (0, 0)) → Of1 g w U → wpList P ops Q rest (a.put o.dst undef) U) : wpList P ops Q (o :: rest) a w := by
  refine wpList_plain hgd fun _ hK => ?_
  have hc : v.cells = #[v] := by cases v <;> first | rfl | cases hv
  have hf : w.frozen? ⟨g, i, none⟩ = false := by simp [World.frozen?, hg]
  have hcell : w.cell? ⟨g, i, none⟩ = some (L[i]) := by rw [Lib.cell_of_heap hg]; simp [hl]
  have hrun : (storeVar ty ⟨g, i, none⟩ v).run P w = .ok () (w.setCell ⟨g, i, none⟩ v) := by
    cases hq : P.info? ty with
    | none => simp [hq] at hi
    | some inf =>
      have hs : inf.size = 1 := by simpa [hq] using hi
      have := run_storeCells_cells (P := P) g i [v] 0 w (fun j hj => by simp at hj; subst hj; simp [hcell]) (fun j hj => by simp at hj; subst hj; simpa using hf) (fun u hu => by simp at hu; rw [hu]; exact hv)
      have e : w.setCells g (i + 0) [v] = w.setCell ⟨g, i, none⟩ v := rfl
      rw [e] at this
      simp [storeVar, sizeOf, typeInfo, hq, hc, hs, this]
  unfold Oper.wp execOp
  simp only [ho, hx, hy, Instr.storeAt, Instr.sureAddr, Sem.run_bind, Sem.run_pure, Result.andThen_ok, hrun]
  refine hK _ _ (h _ ?_ (Of1.of_grown (grown_setCell w g i v)))
  rw [heap_setCell_own hg, List.setIfInBounds_toArray, hL]
end Go.Proofs.Ytebmgajijjhinaa
