/- The texts OpK OpL as one. -/
import Derived.Test.YtimlonpaahdcmaaKn4
import Derived.Test.YtimlonpaahdcmaaRows
import Derived.ProofKit
import Derived.OpenShut
import Derived.SliceStrings
/- Members that came in, opened. -/
namespace Go.Proofs.Ytimlonpaahdcmaa
open Go.ChangeShapes Go.WideShapes Go.ChangeAt Go.RowKit
set_option linter.unusedVariables false

theorem own : ownKnob Try.prog.godebug = none := by kernel_rfl
theorem laidOut : laidOutB Try.prog = true := by kernel_rfl
theorem block_lt {w : World} {b o : Nat} {v : Value} (h : w.cell? ⟨b, o, none⟩ = some v) : b < w.heap.size := by
  rcases Nat.lt_or_ge b w.heap.size with h' | h'
  · exact h'
  · unfold World.cell? at h
    rw [Array.getElem?_eq_none h'] at h
    simp at h
theorem wf_i64 {x : Int} (h : (Lit.int .i64 x).wf = true) : -9223372036854775808 ≤ x ∧ x ≤ 9223372036854775807 := by
  simpa [Lit.wf, IntKind.min, IntKind.max, IntKind.signed, IntKind.bits] using h
theorem list_ofG {α : Type} {P : Nat → α → Prop} : ∀ n : Nat, (∀ i, i < n → ∃ d, P i d) → ∃ l : List α, l.length = n ∧ ∀ i d, l[i]? = some d → P i d
  | 0, _ => ⟨[], rfl, fun i d h => by simp at h⟩
  | n + 1, h => by
    obtain ⟨l, hl, hp⟩ := list_ofG n (fun i hi => h i (by omega))
    obtain ⟨d, hd⟩ := h n (by omega)
    refine ⟨l ++ [d], by simp [hl], fun i x hx => ?_⟩
    by_cases hi : i < n
    · rw [List.getElem?_append_left (by omega)] at hx; exact hp i x hx
    · rw [List.getElem?_append_right (by omega)] at hx
      have hin : i = n := by
        have := (List.getElem?_eq_some_iff.1 hx).1
        simp at this; omega
      subst hin
      simp [hl] at hx; subst hx; exact hd
theorem cMe : Try.prog.cellsOf 38 = 3 := by kernel_rfl
theorem open_rows {α : Type} (E : Lay α) (ok : α → Prop) {T TS : TypeId} (hund : Try.prog.underlying TS = some (.slice T)) (hc : Try.prog.cellsOf T = E.k) {H : Type} {enc : TypeId × Value → H} {W : World}
    (one : ∀ (n : Nat) (cs : List Value) (d : DataW H) (p : List MemPlace), DataW.trod enc Try.prog W 0 (fun _ => true) true n T cs = some (d, p) → ∃ x, cs = E.f x ∧ ok x) {fuel : Nat} {v : Value} {d : DataW H} {p : List MemPlace}
    (hf : DataW.trod enc Try.prog W 0 (fun _ => true) true fuel TS [v] = some (d, p)) :
    ∃ (a : Option Addr) (c : Nat) (l : List α), v = .slice a l.length c ∧ RS E W a l ∧ l.length ≤ maxLen ∧ ∀ t ∈ l, ok t := by
  have hk := E.pos
  rcases DataW.trod_slice hund hf with ⟨hcs, hx⟩ | ⟨a, len, cap, elems, rest, n, _, hcs, hx, hb, hl, hm, hlen, hel, _, _⟩
  · simp only [List.cons.injEq, and_true] at hcs
    subst hcs
    exact ⟨none, 0, [], rfl, fun i d h => by simp at h, by simp, fun t ht => by simp at ht⟩
  · simp only [List.cons.injEq, and_true] at hcs
    subst hcs
    have key : ∀ i, i < len → ∃ y : α, W.cells? 0 (a.add (i * E.k)) E.k = some (E.f y) ∧ ok y := fun i hi => by
      have h := hel i hi
      rw [hc, List.getElem?_eq_getElem (by omega)] at h
      cases hcc : W.cells? 0 (a.add (i * E.k)) E.k with
      | none => rw [hcc] at h; simp at h
      | some cs =>
        rw [hcc] at h
        simp only [Option.bind_some] at h
        obtain ⟨x, hx⟩ : ∃ x, elems[i] = x := ⟨_, rfl⟩
        rw [hx] at h
        obtain ⟨d, p⟩ := x
        obtain ⟨t, y1, y2⟩ := one _ _ _ _ h
        exact ⟨t, by rw [y1], y2⟩
    obtain ⟨l, hll, hlp⟩ := list_ofG len key
    refine ⟨some a, cap, l, by simp [hll], fun i t hi => ?_, by omega, fun t ht => ?_⟩
    · obtain ⟨h1, h2⟩ := hlp i t hi
      have hspot : a.spot = none := by
        have hil : i < l.length := (List.getElem?_eq_some_iff.1 hi).1
        obtain ⟨g1, g2⟩ := hlp 0 _ (List.getElem?_eq_getElem (by omega : 0 < l.length))
        obtain ⟨_, _, gce⟩ := World.cells?_some g1
        have g0 := gce 0 (by omega)
        rw [List.getElem?_eq_getElem (by rw [E.len]; omega)] at g0
        have := World.cell?_spot g0
        simpa [Addr.add] using this
      obtain ⟨_, hcl, hce⟩ := World.cells?_some h1
      obtain ⟨b, off, spot⟩ := a
      subst hspot
      have c0 := hce 0 (by omega)
      rw [Addr.add_mid, Addr.add_mid, List.getElem?_eq_getElem (by rw [E.len]; omega)] at c0
      refine ⟨b, off, rfl, block_lt c0, fun j v hv => ?_⟩
      have hj : j < E.k := by have := (List.getElem?_eq_some_iff.1 hv).1; rw [E.len] at this; exact this
      have := hce j hj
      rw [Addr.add_mid, Addr.add_mid, hv] at this
      exact this
    · obtain ⟨i, hi, rfl⟩ := List.getElem_of_mem ht
      exact (hlp i _ (List.getElem?_eq_getElem hi)).2
/-- each of its numbers is one that an int holds -/
def okM (m : K.Me) : Prop := i64 m.1 ∧ i64 m.2.1 ∧ i64 m.2.2
set_option maxRecDepth 8000 in
theorem me_of {H : Type} {enc : TypeId × Value → H} {W : World} {fuel : Nat} {cs : List Value} {d : DataW H} {p : List MemPlace}
    (h : DataW.trod enc Try.prog W 0 (fun _ => true) true fuel 38 cs = some (d, p)) : ∃ t : K.Me, cs = lyM.f t ∧ okM t := by
  obtain ⟨xs, n, _, hx, hcl, hxl, hfi⟩ := DataW.trod_struct Try.underlying38 h
  rw [cMe] at hcl
  have g : ∀ (i : Nat), i < 3 → ∃ x, xs[i]? = some x := fun i hi => ⟨xs[i]'(by rw [hxl]; exact hi), List.getElem?_eq_getElem _⟩
  obtain ⟨⟨d0, p0⟩, e0⟩ := g 0 (by omega)
  obtain ⟨⟨d1, p1⟩, e1⟩ := g 1 (by omega)
  obtain ⟨⟨d2, p2⟩, e2⟩ := g 2 (by omega)
  have f0 := hfi 0 _ rfl
  have f1 := hfi 1 _ rfl
  have f2 := hfi 2 _ rfl
  rw [e0] at f0
  rw [e1] at f1
  rw [e2] at f2
  have f0' : DataW.trod enc Try.prog W 0 (fun _ => true) true n 3 ((cs.drop 0).take 1) = some (d0, p0) := f0
  have f1' : DataW.trod enc Try.prog W 0 (fun _ => true) true n 3 ((cs.drop 1).take 1) = some (d1, p1) := f1
  have f2' : DataW.trod enc Try.prog W 0 (fun _ => true) true n 3 ((cs.drop 2).take 1) = some (d2, p2) := f2
  match cs, hcl with
  | [c0, c1, c2], _ =>
    simp only [List.drop_zero, List.drop_succ_cons, List.take_succ_cons, List.take_zero] at f0' f1' f2'
    obtain ⟨x, i1, i2, i3⟩ := DataW.trod_int Try.underlying3 f0'
    obtain ⟨y, j1, j2, j3⟩ := DataW.trod_int Try.underlying3 f1'
    obtain ⟨z, k1, k2, k3⟩ := DataW.trod_int Try.underlying3 f2'
    simp only [List.cons.injEq, and_true] at i1 j1 k1
    subst i1 j1 k1
    exact ⟨(x, y, z), rfl, wf_i64 i3, wf_i64 j3, wf_i64 k3⟩
set_option maxRecDepth 100000 in
/-- MEMBERS THAT CAME IN -/
theorem open_members {H : Type} {enc : TypeId × Value → H} {W : World} {base : Nat} {v : Value} {d : DataW H} {p : List MemPlace}
    (hok : Value.okWide Try.prog W .any base 30 v) (h : DataW.Trod enc Try.prog W 0 (fun _ => true) true 30 v d p) :
    ∃ (a : Option Addr) (c : Nat) (l : List K.Me), v = .slice a l.length c ∧ RS lyM W a l ∧ l.length ≤ maxLen ∧ ∀ t ∈ l, okM t := by
  obtain ⟨a0, len0, cap0, rfl⟩ := okWide_slice Try.underlying30 hok
  obtain ⟨fuel, hf0⟩ := h
  have hf : DataW.trod enc Try.prog W 0 (fun _ => true) true fuel 30 [.slice a0 len0 cap0] = some (d, p) := by simpa [Value.cells] using hf0
  exact open_rows lyM okM Try.underlying30 cMe (fun n cs d p h => me_of h) hf
set_option maxRecDepth 100000 in
/-- A MEMBER THAT CAME IN -/
theorem open_member {H : Type} {enc : TypeId × Value → H} {W : World} {base : Nat} {v : Value} {d : DataW H} {p : List MemPlace}
    (hok : Value.okWide Try.prog W .any base 38 v) (h : DataW.Trod enc Try.prog W 0 (fun _ => true) true 38 v d p) :
    ∃ t : K.Me, v = .agg (meV t) ∧ okM t := by
  obtain ⟨fuel, hf⟩ := h
  obtain ⟨t, h1, h2⟩ := me_of hf
  refine ⟨t, ?_, h2⟩
  have hlen : v.cells.size = 3 := by rw [← Array.length_toList, h1]; rfl
  have hv : ∃ cs, v = .agg cs := by
    cases v <;> simp [Value.cells] at hlen
    exact ⟨_, rfl⟩
  obtain ⟨cs, rfl⟩ := hv
  congr 1
  apply Array.toList_inj.1
  exact h1
end Go.Proofs.Ytimlonpaahdcmaa

/- Numbers that came in, opened. -/
namespace Go.Proofs.Ytimlonpaahdcmaa
open Go.ChangeShapes Go.WideShapes Go.ChangeAt Go.RowKit
set_option linter.unusedVariables false

theorem cIn : Try.prog.cellsOf 3 = 1 := by kernel_rfl
set_option maxRecDepth 100000 in
/-- NUMBERS THAT CAME IN -/
theorem open_ints {H : Type} {enc : TypeId × Value → H} {W : World} {base : Nat} {v : Value} {d : DataW H} {p : List MemPlace}
    (hok : Value.okWide Try.prog W .any base 23 v) (h : DataW.Trod enc Try.prog W 0 (fun _ => true) true 23 v d p) :
    ∃ (a : Option Addr) (c : Nat) (l : List Int), v = .slice a l.length c ∧ RS lyI W a l ∧ l.length ≤ maxLen ∧ ∀ t ∈ l, i64 t := by
  obtain ⟨a0, len0, cap0, rfl⟩ := okWide_slice Try.underlying23 hok
  obtain ⟨fuel, hf0⟩ := h
  have hf : DataW.trod enc Try.prog W 0 (fun _ => true) true fuel 23 [.slice a0 len0 cap0] = some (d, p) := by simpa [Value.cells] using hf0
  exact open_rows lyI i64 Try.underlying23 cIn (fun n cs d p h => by
    obtain ⟨z, z1, z2, z3⟩ := DataW.trod_int Try.underlying3 h
    exact ⟨z, z1, wf_i64 z3⟩) hf
end Go.Proofs.Ytimlonpaahdcmaa
