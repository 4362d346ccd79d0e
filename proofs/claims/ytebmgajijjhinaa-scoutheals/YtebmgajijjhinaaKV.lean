/- A view in memory: its map of members by nodes. -/
import Derived.Test.YtebmgajijjhinaaKMath
import Derived.Test.YtebmgajijjhinaaKB
import Derived.Maps.OwnSet
namespace Go.Proofs.Ytebmgajijjhinaa
open Go.RowKit Go.Maps
set_option linter.unusedVariables false
set_option linter.unusedSimpArgs false

abbrev tVm : TypeId := 109
theorem undVm : Try.prog.underlying tVm = some (.map 3 54) := by kernel_rfl
theorem lawI : Keyed Try.prog 3 := int_keyed Try.underlying3
/-- a member's cells -/
def meV (m : K.Me) : Array Value := #[.int .i64 m.1, .int .i64 m.2.1, .int .i64 m.2.2]
def meD (m : K.Me) : DataW Unit := .agg [.lit (.int .i64 m.1), .lit (.int .i64 m.2.1), .lit (.int .i64 m.2.2)]
def lyM : Lay K.Me := ⟨3, fun m => [.int .i64 m.1, .int .i64 m.2.1, .int .i64 m.2.2], fun _ => rfl, fun x u hu => by simp at hu; rcases hu with rfl | rfl | rfl <;> rfl, by decide⟩
def lyI : Lay Int := ⟨1, fun m => [.int .i64 m], fun _ => rfl, fun x u hu => by simp at hu; subst hu; rfl, by decide⟩
def mL : List Value → Option (DataW Unit × List MemPlace)
  | [.int .i64 a, .int .i64 b, .int .i64 c] => some (.agg [.lit (.int .i64 a), .lit (.int .i64 b), .lit (.int .i64 c)], [])
  | _ => none
def mE : Value → Option (DataW Unit × List MemPlace)
  | .agg a => mL a.toList
  | _ => none
theorem mE_mk (m : K.Me) : mE (.agg (meV m)) = some (meD m, []) := rfl
theorem mE_inv {v : Value} {z : DataW Unit × List MemPlace} (h : mE v = some z) : ∃ m : K.Me, v = .agg (meV m) ∧ z = (meD m, []) := by
  unfold mE at h
  split at h
  · rename_i a
    unfold mL at h
    split at h
    · rename_i x y q e
      cases h
      refine ⟨(x, y, q), ?_, rfl⟩
      congr 1
      apply Array.toList_inj.1
      rw [e]; rfl
    · cases h
  · cases h
theorem meD_inj {r q : K.Me} (h : meD r = meD q) : r = q := by
  simp only [meD, DataW.agg.injEq, List.cons.injEq, DataW.lit.injEq, Lit.int.injEq, true_and, and_true] at h
  exact K.me_ext h.1 h.2.1 h.2.2
def klI (k : Int) : Lit := .int .i64 k
/-- a number that an int holds -/
def i64 (k : Int) : Prop := -9223372036854775808 ≤ k ∧ k ≤ 9223372036854775807
theorem wf_of {k : Int} (h : i64 k) : (Lit.int .i64 k).wf = true := by
  simp [Lit.wf, IntKind.min, IntKind.max, IntKind.signed, IntKind.bits]; exact h
theorem key_i (k : Int) (h : i64 k) : keyOf Try.prog 3 (.int .i64 k) = some (klI k) := keyOf_int_mk Try.underlying3 (wf_of h)
theorem isKeyI (k : Int) : WideAt.IsKeyLit (klI k) := trivial
theorem klI_ne {s t : Int} (h : s ≠ t) : klI s ≠ klI t := fun e => h (by simpa [klI] using e)
def gv (f : K.Vw) (k : Int) : K.Me := (f k).getD (0, 0, 0)
structure VD (D : DataW Unit) (f : K.Vw) : Prop where
  has : ∀ k, Maps.has D (klI k) = (f k).isSome
  at' : ∀ k, D.atKey (klI k) (meD (0, 0, 0)) = meD (gv f k)
def VM (W : World) (b : Nat) (f : K.Vw) (N : Nat) : Prop := ∃ (D : DataW Unit) (n : Nat), n ≤ N ∧ W.ownsMap Try.prog 3 mE b n D ∧ VD D f
theorem VM.block {W W' : World} {b : Nat} {f : K.Vw} {N : Nat} (h : VM W b f N) (hb : W'.heap[b]? = W.heap[b]?) : VM W' b f N := by
  obtain ⟨D, n, h0, ⟨es, clock, h1, h2⟩, h3⟩ := h
  exact ⟨D, n, h0, ⟨es, clock, by rw [hb]; exact h1, h2⟩, h3⟩
theorem VM.lt {W : World} {b : Nat} {f : K.Vw} {N : Nat} (h : VM W b f N) : b < W.heap.size := by
  obtain ⟨D, n, h0, h1, h2⟩ := h
  exact h1.lt
theorem VM.isMap {W : World} {b : Nat} {f : K.Vw} {N : Nat} (h : VM W b f N) : ∃ es c, W.heap[b]? = some (.map es c) := by
  obtain ⟨D, n, h0, ⟨es, clock, h1, h2⟩, h3⟩ := h
  exact ⟨es, clock, h1⟩
theorem VM.more {W : World} {b : Nat} {f : K.Vw} {N M : Nat} (h : VM W b f N) (hm : N ≤ M) : VM W b f M := by
  obtain ⟨D, n, h0, h1⟩ := h
  exact ⟨D, n, Nat.le_trans h0 hm, h1⟩
theorem VM.look {W : World} {b : Nat} {f : K.Vw} {N : Nat} (h : VM W b f N) (k : Int) (hk : i64 k) :
    (Instr.lookup tVm (.map (some b)) (.int .i64 k) true).run Try.prog W = .ok (.tuple #[.agg (meV (gv f k)), .bool (f k).isSome]) W := by
  obtain ⟨D, n, h0, h1, h2⟩ := h
  obtain ⟨v, ps, hrun, hR⟩ := h1.look_ok lawI undVm (z := .agg (meV (0, 0, 0))) (zd := meD (0, 0, 0)) (zp := []) (by kernel_rfl) (mE_mk _) (key_i k hk)
  rw [hrun]
  obtain ⟨r, rfl, hz⟩ := mE_inv hR
  simp only [Prod.mk.injEq] at hz
  rw [h2.at' k] at hz
  rw [← meD_inj hz.1, h2.has k]
theorem VM.put {W : World} {b : Nat} {f : K.Vw} {N : Nat} (h : VM W b f N) (m : K.Me) (hk : i64 m.1) (hl : N < 1000000000000) :
    ∃ W', (Instr.mapUpdate tVm (.map (some b)) (.int .i64 m.1) (.agg (meV m))).run Try.prog W = .ok () W' ∧ VM W' b (fun k => if k = m.1 then some m else f k) (N + 1) ∧ W.mapTurned W' b := by
  obtain ⟨D, n, h0, h1, h2⟩ := h
  obtain ⟨W', hrun, hown, ht⟩ := h1.store lawI undVm (by unfold maxLen; omega) (key_i m.1 hk) (mE_mk m)
  refine ⟨W', hrun, ⟨_, n + 1, by omega, hown, ?_⟩, ht⟩
  refine ⟨fun t => ?_, fun t => ?_⟩
  · by_cases e : t = m.1
    · subst e
      rw [has_put_same h1.isMap (isKeyI _) _]; simp
    · rw [has_put_other (klI_ne e), h2.has t]; simp [e]
  · by_cases e : t = m.1
    · subst e
      rw [atKey_put_same h1.isMap (isKeyI _) _ _]
      simp [gv]
    · rw [atKey_put_other (klI_ne e), h2.at' t]
      simp [gv, e]
theorem VM.made (W : World) : VM (W.alloc (.map #[] 0)) W.heap.size K.e0 0 := by
  refine ⟨.map [], 0, Nat.le_refl _, World.ownsMap_made W Try.prog 3 mE, ?_⟩
  exact ⟨fun s => rfl, fun s => rfl⟩
/-- a view in block q, its map in block b; what lay in w lies there still -/
structure VT (w : World) (q b : Nat) (f : K.Vw) (N : Nat) (W : World) : Prop where
  row : W.heap[q]? = some (.cells #[.map (some b)] 111 (0, 0))
  mp : VM W b f N
  q0 : w.heap.size ≤ q
  b0 : w.heap.size ≤ b
  bl : Bl w W
theorem VT.grow {w W W' : World} {q b : Nat} {f : K.Vw} {N : Nat} (x : VT w q b f N W) (hb : Bl W W') : VT w q b f N W' :=
  ⟨by rw [Below.block hb _ (lt_heap x.row)]; exact x.row, x.mp.block (Below.block hb _ x.mp.lt), x.q0, x.b0, x.bl.step hb⟩
theorem VT.off {w W W' : World} {q b r : Nat} {f : K.Vw} {N : Nat} (x : VT w q b f N W) (hb : Of1 r W W') (h1 : r ≠ q) (h2 : r ≠ b) (hr : w.heap.size ≤ r) : VT w q b f N W' :=
  ⟨by rw [hb.block _ (lt_heap x.row) (Ne.symm h1)]; exact x.row, x.mp.block (hb.block _ x.mp.lt (Ne.symm h2)), x.q0, x.b0, hb.bl x.bl hr⟩
theorem VT.more {w W : World} {q b : Nat} {f : K.Vw} {N M : Nat} (x : VT w q b f N W) (hm : N ≤ M) : VT w q b f M W := ⟨x.row, x.mp.more hm, x.q0, x.b0, x.bl⟩
theorem VT.ne {w W : World} {q b : Nat} {f : K.Vw} {N : Nat} (x : VT w q b f N W) : q ≠ b := fun e => by
  obtain ⟨es, c, h⟩ := x.mp.isMap
  have := x.row
  rw [e, h] at this; cases this
theorem VT.put {w W : World} {q b : Nat} {f : K.Vw} {N : Nat} (x : VT w q b f N W) (m : K.Me) (hk : i64 m.1) (hl : N < 1000000000000) :
    ∃ W', (Instr.mapUpdate tVm (.map (some b)) (.int .i64 m.1) (.agg (meV m))).run Try.prog W = .ok () W' ∧ VT w q b (fun k => if k = m.1 then some m else f k) (N + 1) W' ∧ Of1 b W W' := by
  obtain ⟨W', h1, h2, h3⟩ := x.mp.put m hk hl
  have ho := Of1.of_grown h3.grown
  refine ⟨W', h1, ⟨?_, h2, x.q0, x.b0, ho.bl x.bl x.b0⟩, ho⟩
  rw [ho.block q (lt_heap x.row) x.ne]; exact x.row
theorem VT.c0 {w W : World} {q b : Nat} {f : K.Vw} {N : Nat} (x : VT w q b f N W) : W.cell? ⟨q, 0, none⟩ = some (.map (some b)) := by rw [Lib.cell_of_heap x.row]; rfl
end Go.Proofs.Ytebmgajijjhinaa
