/- Sources and results that came in, opened. -/
import Derived.Test.YtjbffhdccgmfpaaGreatDoorOC
import Derived.Test.YtjbffhdccgmfpaaGreatDoorOpG
namespace Go.Proofs.YtjbffhdccgmfpaaGreatDoor
open Go.ChangeShapes Go.WideShapes Go.ChangeAt Go.RowKit
set_option linter.unusedVariables false

theorem cSo : Tryz.prog.cellsOf 45 = 2 := by kernel_rfl
theorem cRe : Tryz.prog.cellsOf 47 = 2 := by kernel_rfl
/-- a slice of things of k cells each -/
theorem open_rows {α : Type} (E : Lay α) (ok : α → Prop) {T TS : TypeId} (hund : Tryz.prog.underlying TS = some (.slice T)) (hc : Tryz.prog.cellsOf T = E.k) {H : Type} {enc : TypeId × Value → H} {W : World}
    (one : ∀ (n : Nat) (cs : List Value) (d : DataW H) (p : List MemPlace), DataW.trod enc Tryz.prog W 0 (fun _ => true) true n T cs = some (d, p) → ∃ x, cs = E.f x ∧ ok x) {fuel : Nat} {v : Value} {d : DataW H} {p : List MemPlace}
    (hf : DataW.trod enc Tryz.prog W 0 (fun _ => true) true fuel TS [v] = some (d, p)) :
    ∃ (a : Option Addr) (c : Nat) (l : List α), v = .slice a l.length c ∧ RS E W a l ∧ l.length ≤ maxLen ∧ ∀ t ∈ l, ok t := by
  have hk := E.pos
  rcases DataW.trod_slice hund hf with ⟨hcs, hx⟩ | ⟨a, len, cap, elems, rest, n, _, hcs, hx, hb, hl, hm, hlen, hel, _, _⟩
  · simp only [List.cons.injEq, and_true] at hcs
    subst hcs
    exact ⟨none, 0, [], rfl, fun i d h => by simp at h, by simp, fun t ht => by simp at ht⟩
  · simp only [List.cons.injEq, and_true] at hcs
    subst hcs
    have key : ∀ i, i < len → ∃ y : α, W.cells? 0 (a.add (i * E.k)) E.k = some (E.f y) ∧ ok y := fun i hi => by
      have h := hel i hi
      rw [hc, List.getElem?_eq_getElem (by omega)] at h
      cases hcc : W.cells? 0 (a.add (i * E.k)) E.k with
      | none => rw [hcc] at h; simp at h
      | some cs =>
        rw [hcc] at h
        simp only [Option.bind_some] at h
        obtain ⟨x, hx⟩ : ∃ x, elems[i] = x := ⟨_, rfl⟩
        rw [hx] at h
        obtain ⟨d, p⟩ := x
        obtain ⟨t, y1, y2⟩ := one _ _ _ _ h
        exact ⟨t, by rw [y1], y2⟩
    obtain ⟨l, hll, hlp⟩ := list_ofG len key
    refine ⟨some a, cap, l, by simp [hll], fun i t hi => ?_, by omega, fun t ht => ?_⟩
    · obtain ⟨h1, h2⟩ := hlp i t hi
      have hspot : a.spot = none := by
        have hil : i < l.length := (List.getElem?_eq_some_iff.1 hi).1
        obtain ⟨g1, g2⟩ := hlp 0 _ (List.getElem?_eq_getElem (by omega : 0 < l.length))
        obtain ⟨_, _, gce⟩ := World.cells?_some g1
        have g0 := gce 0 (by omega)
        rw [List.getElem?_eq_getElem (by rw [E.len]; omega)] at g0
        have := World.cell?_spot g0
        simpa [Addr.add] using this
      obtain ⟨_, hcl, hce⟩ := World.cells?_some h1
      obtain ⟨b, off, spot⟩ := a
      subst hspot
      have c0 := hce 0 (by omega)
      rw [Addr.add_mid, Addr.add_mid, List.getElem?_eq_getElem (by rw [E.len]; omega)] at c0
      refine ⟨b, off, rfl, block_lt c0, fun j v hv => ?_⟩
      have hj : j < E.k := by have := (List.getElem?_eq_some_iff.1 hv).1; rw [E.len] at this; exact this
      have := hce j hj
      rw [Addr.add_mid, Addr.add_mid, hv] at this
      exact this
    · obtain ⟨i, hi, rfl⟩ := List.getElem_of_mem ht
      exact (hlp i _ (List.getElem?_eq_getElem hi)).2
set_option maxRecDepth 8000 in
theorem so_of {H : Type} {enc : TypeId × Value → H} {W : World} {fuel : Nat} {cs : List Value} {d : DataW H} {p : List MemPlace}
    (h : DataW.trod enc Tryz.prog W 0 (fun _ => true) true fuel 45 cs = some (d, p)) :
    ∃ t : O.So, cs = lyS.f t ∧ (t.1.length ≤ maxLen ∧ t.2.length ≤ maxLen) := by
  obtain ⟨xs, n, _, hx, hcl, hxl, hfi⟩ := DataW.trod_struct Tryz.underlying45 h
  rw [cSo] at hcl
  have g : ∀ (i : Nat), i < 2 → ∃ x, xs[i]? = some x := fun i hi => ⟨xs[i]'(by rw [hxl]; exact hi), List.getElem?_eq_getElem _⟩
  obtain ⟨x0, e0⟩ := g 0 (by omega)
  obtain ⟨x1, e1⟩ := g 1 (by omega)
  have f0 := hfi 0 _ rfl
  have f1 := hfi 1 _ rfl
  rw [e0] at f0
  rw [e1] at f1
  obtain ⟨d0, p0⟩ := x0
  obtain ⟨d1, p1⟩ := x1
  have f0' : DataW.trod enc Tryz.prog W 0 (fun _ => true) true n 41 ((cs.drop 0).take 1) = some (d0, p0) := f0
  have f1' : DataW.trod enc Tryz.prog W 0 (fun _ => true) true n 9 ((cs.drop 1).take 1) = some (d1, p1) := f1
  match cs, hcl with
  | [c0, c1], _ =>
    simp only [List.drop_zero, List.drop_succ_cons, List.take_succ_cons, List.take_zero] at f0' f1'
    obtain ⟨nm, n1, n2⟩ := named_of f0'
    obtain ⟨s, s1, s2, s3⟩ := DataW.trod_string Tryz.underlying9 f1'
    simp only [List.cons.injEq, and_true] at s1
    subst n1 s1
    exact ⟨(nm, s.data.toList), by simp only [lyS, M.bs_of], n2, by rw [← Lib.size_eq]; exact s3⟩
set_option maxRecDepth 100000 in
/-- SOURCES THAT CAME IN -/
theorem open_sources {H : Type} {enc : TypeId × Value → H} {W : World} {base : Nat} {v : Value} {d : DataW H} {p : List MemPlace}
    (hok : Value.okWide Tryz.prog W .any base 26 v) (h : DataW.Trod enc Tryz.prog W 0 (fun _ => true) true 26 v d p) :
    ∃ (a : Option Addr) (c : Nat) (l : List O.So), v = .slice a l.length c ∧ RS lyS W a l ∧ l.length ≤ maxLen ∧ ∀ t ∈ l, t.1.length ≤ maxLen ∧ t.2.length ≤ maxLen := by
  obtain ⟨a0, len0, cap0, rfl⟩ := okWide_slice Tryz.underlying26 hok
  obtain ⟨fuel, hf0⟩ := h
  have hf : DataW.trod enc Tryz.prog W 0 (fun _ => true) true fuel 26 [.slice a0 len0 cap0] = some (d, p) := by simpa [Value.cells] using hf0
  exact open_rows lyS (fun t => t.1.length ≤ maxLen ∧ t.2.length ≤ maxLen) Tryz.underlying26 cSo (fun n cs d p h => so_of h) hf
set_option maxRecDepth 8000 in
theorem re_of {H : Type} {enc : TypeId × Value → H} {W : World} {fuel : Nat} {cs : List Value} {d : DataW H} {p : List MemPlace}
    (h : DataW.trod enc Tryz.prog W 0 (fun _ => true) true fuel 47 cs = some (d, p)) :
    ∃ t : O.Re, cs = lyR.f t ∧ (-9223372036854775808 ≤ t.1 ∧ t.1 ≤ 9223372036854775807 ∧ t.2.length ≤ 9223372036854775807) := by
  obtain ⟨xs, n, _, hx, hcl, hxl, hfi⟩ := DataW.trod_struct Tryz.underlying47 h
  rw [cRe] at hcl
  have g : ∀ (i : Nat), i < 2 → ∃ x, xs[i]? = some x := fun i hi => ⟨xs[i]'(by rw [hxl]; exact hi), List.getElem?_eq_getElem _⟩
  obtain ⟨x0, e0⟩ := g 0 (by omega)
  obtain ⟨x1, e1⟩ := g 1 (by omega)
  have f0 := hfi 0 _ rfl
  have f1 := hfi 1 _ rfl
  rw [e0] at f0
  rw [e1] at f1
  obtain ⟨d0, p0⟩ := x0
  obtain ⟨d1, p1⟩ := x1
  have f0' : DataW.trod enc Tryz.prog W 0 (fun _ => true) true n 30 ((cs.drop 0).take 1) = some (d0, p0) := f0
  have f1' : DataW.trod enc Tryz.prog W 0 (fun _ => true) true n 9 ((cs.drop 1).take 1) = some (d1, p1) := f1
  match cs, hcl with
  | [c0, c1], _ =>
    simp only [List.drop_zero, List.drop_succ_cons, List.take_succ_cons, List.take_zero] at f0' f1'
    obtain ⟨x, i1, i2, i3⟩ := DataW.trod_int Tryz.underlying30 f0'
    obtain ⟨s, s1, s2, s3⟩ := DataW.trod_string Tryz.underlying9 f1'
    simp only [List.cons.injEq, and_true] at s1 i1
    subst s1 i1
    have hw := wf_i64 i3
    unfold maxLen at s3
    exact ⟨(x, s.data.toList), by simp only [lyR, M.bs_of], by simp only; omega, by simp only; omega, by simp only; rw [← Lib.size_eq]; exact s3⟩
set_option maxRecDepth 100000 in
/-- A RESULT THAT CAME IN -/
theorem open_result {H : Type} {enc : TypeId × Value → H} {W : World} {base : Nat} {v : Value} {d : DataW H} {p : List MemPlace}
    (hok : Value.okWide Tryz.prog W .any base 47 v) (h : DataW.Trod enc Tryz.prog W 0 (fun _ => true) true 47 v d p) :
    ∃ t : O.Re, v = .agg (resV t) ∧ (-9223372036854775808 ≤ t.1 ∧ t.1 ≤ 9223372036854775807 ∧ t.2.length ≤ 9223372036854775807) := by
  obtain ⟨fuel, hf⟩ := h
  obtain ⟨t, h1, h2⟩ := re_of hf
  refine ⟨t, ?_, h2⟩
  have hlen : v.cells.size = 2 := by rw [← Array.length_toList, h1]; rfl
  have hv : ∃ cs, v = .agg cs := by
    cases v <;> simp [Value.cells] at hlen
    exact ⟨_, rfl⟩
  obtain ⟨cs, rfl⟩ := hv
  congr 1
  apply Array.toList_inj.1
  exact h1
end Go.Proofs.YtjbffhdccgmfpaaGreatDoor
