/- A view in memory: its map of members by nodes. -/
import Derived.Test.YtpgagddofifikaaKMath
import Derived.Test.YtpgagddofifikaaKB
import Derived.Maps.OwnSet
namespace Go.Proofs.Ytpgagddofifikaa
open Go.RowKit Go.Maps
set_option linter.unusedVariables false
set_option linter.unusedSimpArgs false

theorem lawI : Keyed Try.prog 3 := int_keyed Try.underlying3
/-- a member's cells -/
def meV (m : K.Me) : Array Value := #[.int .i64 m.1, .int .i64 m.2.1, .int .i64 m.2.2]
def meD (m : K.Me) : DataW Unit := .agg [.lit (.int .i64 m.1), .lit (.int .i64 m.2.1), .lit (.int .i64 m.2.2)]
def lyM : Lay K.Me := ⟨3, fun m => [.int .i64 m.1, .int .i64 m.2.1, .int .i64 m.2.2], fun _ => rfl, fun x u hu => by simp at hu; rcases hu with rfl | rfl | rfl <;> rfl, by decide⟩
def lyI : Lay Int := ⟨1, fun m => [.int .i64 m], fun _ => rfl, fun x u hu => by simp at hu; subst hu; rfl, by decide⟩
def mL : List Value → Option (DataW Unit × List MemPlace)
  | [.int .i64 a, .int .i64 b, .int .i64 c] => some (.agg [.lit (.int .i64 a), .lit (.int .i64 b), .lit (.int .i64 c)], [])
  | _ => none
def mE : Value → Option (DataW Unit × List MemPlace)
  | .agg a => mL a.toList
  | _ => none
theorem mE_mk (m : K.Me) : mE (.agg (meV m)) = some (meD m, []) := rfl
theorem mE_inv {v : Value} {z : DataW Unit × List MemPlace} (h : mE v = some z) : ∃ m : K.Me, v = .agg (meV m) ∧ z = (meD m, []) := by
  unfold mE at h
  split at h
  · rename_i a
    unfold mL at h
    split at h
    · rename_i x y q e
      cases h
      refine ⟨(x, y, q), ?_, rfl⟩
      congr 1
      apply Array.toList_inj.1
      rw [e]; rfl
    · cases h
  · cases h
theorem meD_inj {r q : K.Me} (h : meD r = meD q) : r = q := by
  simp only [meD, DataW.agg.injEq, List.cons.injEq, DataW.lit.injEq, Lit.int.injEq, true_and, and_true] at h
  exact K.me_ext h.1 h.2.1 h.2.2
def klI (k : Int) : Lit := .int .i64 k
/-- a number that an int holds -/
def i64 (k : Int) : Prop := -9223372036854775808 ≤ k ∧ k ≤ 9223372036854775807
theorem wf_of {k : Int} (h : i64 k) : (Lit.int .i64 k).wf = true := by
  simp [Lit.wf, IntKind.min, IntKind.max, IntKind.signed, IntKind.bits]; exact h
theorem key_i (k : Int) (h : i64 k) : keyOf Try.prog 3 (.int .i64 k) = some (klI k) := keyOf_int_mk Try.underlying3 (wf_of h)
theorem isKeyI (k : Int) : WideAt.IsKeyLit (klI k) := trivial
theorem klI_ne {s t : Int} (h : s ≠ t) : klI s ≠ klI t := fun e => h (by simpa [klI] using e)
def gv (f : K.Vw) (k : Int) : K.Me := (f k).getD (0, 0, 0)
structure VD (D : DataW Unit) (f : K.Vw) : Prop where
  has : ∀ k, Maps.has D (klI k) = (f k).isSome
  at' : ∀ k, D.atKey (klI k) (meD (0, 0, 0)) = meD (gv f k)
def VM (W : World) (b : Nat) (f : K.Vw) (N : Nat) : Prop := ∃ (D : DataW Unit) (n : Nat), n ≤ N ∧ W.ownsMap Try.prog 3 mE b n D ∧ VD D f
theorem VM.block {W W' : World} {b : Nat} {f : K.Vw} {N : Nat} (h : VM W b f N) (hb : W'.heap[b]? = W.heap[b]?) : VM W' b f N := by
  obtain ⟨D, n, h0, ⟨es, clock, h1, h2⟩, h3⟩ := h
  exact ⟨D, n, h0, ⟨es, clock, by rw [hb]; exact h1, h2⟩, h3⟩
theorem VM.lt {W : World} {b : Nat} {f : K.Vw} {N : Nat} (h : VM W b f N) : b < W.heap.size := by
  obtain ⟨D, n, h0, h1, h2⟩ := h
  exact h1.lt
theorem VM.isMap {W : World} {b : Nat} {f : K.Vw} {N : Nat} (h : VM W b f N) : ∃ es c, W.heap[b]? = some (.map es c) := by
  obtain ⟨D, n, h0, ⟨es, clock, h1, h2⟩, h3⟩ := h
  exact ⟨es, clock, h1⟩
theorem VM.more {W : World} {b : Nat} {f : K.Vw} {N M : Nat} (h : VM W b f N) (hm : N ≤ M) : VM W b f M := by
  obtain ⟨D, n, h0, h1⟩ := h
  exact ⟨D, n, Nat.le_trans h0 hm, h1⟩
theorem VM.made (W : World) : VM (W.alloc (.map #[] 0)) W.heap.size K.e0 0 := by
  refine ⟨.map [], 0, Nat.le_refl _, World.ownsMap_made W Try.prog 3 mE, ?_⟩
  exact ⟨fun s => rfl, fun s => rfl⟩
end Go.Proofs.Ytpgagddofifikaa
