/- A build that came in, opened. -/
import Derived.Test.YtjbffhdccgmfpaaGreatDoorLB
import Derived.Test.YtjbffhdccgmfpaaGreatDoorRows
import Derived.ProofKit
import Derived.OpenShut
import Derived.SliceStrings
namespace Go.Proofs.YtjbffhdccgmfpaaGreatDoor
open Go.ChangeShapes Go.WideShapes Go.ChangeAt Go.RowKit
set_option linter.unusedVariables false

theorem list_ofG {α : Type} {P : Nat → α → Prop} : ∀ n : Nat, (∀ i, i < n → ∃ d, P i d) → ∃ l : List α, l.length = n ∧ ∀ i d, l[i]? = some d → P i d
  | 0, _ => ⟨[], rfl, fun i d h => by simp at h⟩
  | n + 1, h => by
    obtain ⟨l, hl, hp⟩ := list_ofG n (fun i hi => h i (by omega))
    obtain ⟨d, hd⟩ := h n (by omega)
    refine ⟨l ++ [d], by simp [hl], fun i x hx => ?_⟩
    by_cases hi : i < n
    · rw [List.getElem?_append_left (by omega)] at hx; exact hp i x hx
    · rw [List.getElem?_append_right (by omega)] at hx
      have hin : i = n := by
        have := (List.getElem?_eq_some_iff.1 hx).1
        simp at this; omega
      subst hin
      simp [hl] at hx; subst hx; exact hd
theorem cAc : Tryz.prog.cellsOf 43 = 3 := by kernel_rfl
theorem cNm : Tryz.prog.cellsOf 41 = 1 := by kernel_rfl
theorem cGr : Tryz.prog.cellsOf 25 = 2 := by kernel_rfl
set_option maxRecDepth 8000 in
theorem named_of {H : Type} {enc : TypeId × Value → H} {W : World} {fuel : Nat} {c : Value} {d : DataW H} {p : List MemPlace}
    (h : DataW.trod enc Tryz.prog W 0 (fun _ => true) true fuel 41 [c] = some (d, p)) : ∃ s : List UInt8, c = .string (M.bs s) ∧ s.length ≤ maxLen := by
  obtain ⟨xs, n, _, hx, hcl, hxl, hfi⟩ := DataW.trod_struct Tryz.underlying41 h
  obtain ⟨x0, e0⟩ : ∃ x, xs[0]? = some x := ⟨xs[0]'(by rw [hxl]; decide), List.getElem?_eq_getElem _⟩
  have f0 := hfi 0 _ rfl
  rw [e0] at f0
  obtain ⟨d0, p0⟩ := x0
  have f0' : DataW.trod enc Tryz.prog W 0 (fun _ => true) true n 9 (([c].drop 0).take 1) = some (d0, p0) := f0
  simp only [List.drop_zero, List.take_succ_cons, List.take_zero] at f0'
  obtain ⟨s, s1, s2, s3⟩ := DataW.trod_string Tryz.underlying9 f0'
  simp only [List.cons.injEq, and_true] at s1
  exact ⟨s.data.toList, by rw [s1, M.bs_of], by rw [← Lib.size_eq]; exact s3⟩
set_option maxRecDepth 8000 in
/-- an action's cells, as an action -/
theorem ac_of {H : Type} {enc : TypeId × Value → H} {W : World} {fuel : Nat} {cs : List Value} {d : DataW H} {p : List MemPlace}
    (h : DataW.trod enc Tryz.prog W 0 (fun _ => true) true fuel 43 cs = some (d, p)) :
    ∃ (t : RC.Ac) (x : Option Addr) (c : Nat), cs = acL t x c ∧ acOk t ∧ Strs W.heap.size W (.slice x t.2.1.length c) t.2.1 := by
  obtain ⟨xs, n, _, hx, hcl, hxl, hfi⟩ := DataW.trod_struct Tryz.underlying43 h
  rw [cAc] at hcl
  have g : ∀ (i : Nat), i < 3 → ∃ x, xs[i]? = some x := fun i hi => ⟨xs[i]'(by rw [hxl]; exact hi), List.getElem?_eq_getElem _⟩
  obtain ⟨x0, e0⟩ := g 0 (by omega)
  obtain ⟨x1, e1⟩ := g 1 (by omega)
  obtain ⟨x2, e2⟩ := g 2 (by omega)
  have f0 := hfi 0 _ rfl
  have f1 := hfi 1 _ rfl
  have f2 := hfi 2 _ rfl
  rw [e0] at f0
  rw [e1] at f1
  rw [e2] at f2
  obtain ⟨d0, p0⟩ := x0
  obtain ⟨d1, p1⟩ := x1
  obtain ⟨d2, p2⟩ := x2
  have f0' : DataW.trod enc Tryz.prog W 0 (fun _ => true) true n 41 ((cs.drop 0).take 1) = some (d0, p0) := f0
  have f1' : DataW.trod enc Tryz.prog W 0 (fun _ => true) true n 22 ((cs.drop 1).take 1) = some (d1, p1) := f1
  have f2' : DataW.trod enc Tryz.prog W 0 (fun _ => true) true n 9 ((cs.drop 2).take 1) = some (d2, p2) := f2
  match cs, hcl with
  | [c0, c1, c2], _ =>
    simp only [List.drop_zero, List.drop_succ_cons, List.take_succ_cons, List.take_zero] at f0' f1' f2'
    obtain ⟨nm, n1, n2⟩ := named_of f0'
    obtain ⟨x, c, l, q1, q2, q3, q4, _⟩ := open_texts_c f1'
    obtain ⟨s, s1, s2, s3⟩ := DataW.trod_string Tryz.underlying9 f2'
    simp only [List.cons.injEq, and_true] at s1
    subst n1 s1 q1
    exact ⟨(nm, l, s.data.toList), x, c, by simp only [acL, M.bs_of], ⟨n2, q3, q4, by rw [← Lib.size_eq]; exact s3⟩, q2⟩
theorem open_acs {H : Type} {enc : TypeId × Value → H} {W : World} {fuel : Nat} {v : Value} {d : DataW H} {p : List MemPlace}
    (hf : DataW.trod enc Tryz.prog W 0 (fun _ => true) true fuel 23 [v] = some (d, p)) :
    ∃ (a : Option Addr) (c : Nat) (l : List RC.Ac), v = .slice a l.length c ∧ Acts W.heap.size W a l ∧ l.length ≤ maxLen ∧ ∀ t ∈ l, acOk t := by
  rcases DataW.trod_slice Tryz.underlying23 hf with ⟨hcs, hx⟩ | ⟨a, len, cap, elems, rest, n, _, hcs, hx, hb, hl, hm, hlen, hel, _, _⟩
  · simp only [List.cons.injEq, and_true] at hcs
    subst hcs
    exact ⟨none, 0, [], rfl, fun i d h => by simp at h, by simp, fun t ht => by simp at ht⟩
  · simp only [List.cons.injEq, and_true] at hcs
    subst hcs
    have key : ∀ i, i < len → ∃ y : RC.Ac × Option Addr × Nat, W.cells? 0 (a.add (i * 3)) 3 = some (acL y.1 y.2.1 y.2.2) ∧ acOk y.1 ∧ Strs W.heap.size W (.slice y.2.1 y.1.2.1.length y.2.2) y.1.2.1 := fun i hi => by
      have h := hel i hi
      rw [cAc, List.getElem?_eq_getElem (by omega)] at h
      cases hc : W.cells? 0 (a.add (i * 3)) 3 with
      | none => rw [hc] at h; simp at h
      | some cs =>
        rw [hc] at h
        simp only [Option.bind_some] at h
        obtain ⟨x, hx⟩ : ∃ x, elems[i] = x := ⟨_, rfl⟩
        rw [hx] at h
        obtain ⟨d, p⟩ := x
        obtain ⟨t, x, c, y1, y2, y3⟩ := ac_of h
        exact ⟨(t, x, c), by rw [y1], y2, y3⟩
    obtain ⟨l, hll, hlp⟩ := list_ofG len key
    refine ⟨some a, cap, l.map (·.1), by simp [hll], fun i t ht => ?_, by simp [hll]; omega, fun t ht => ?_⟩
    · rw [List.getElem?_map] at ht
      cases hi : l[i]? with
      | none => rw [hi] at ht; simp at ht
      | some y =>
        rw [hi] at ht
        simp only [Option.map_some, Option.some.injEq] at ht
        subst ht
        obtain ⟨h1, h2, h3⟩ := hlp i y hi
        have hspot : a.spot = none := by
          have hil : i < l.length := (List.getElem?_eq_some_iff.1 hi).1
          obtain ⟨g1, g2⟩ := hlp 0 _ (List.getElem?_eq_getElem (by omega : 0 < l.length))
          obtain ⟨_, _, gce⟩ := World.cells?_some g1
          have g0 := gce 0 (by omega)
          have := World.cell?_spot g0
          simpa [Addr.add] using this
        obtain ⟨_, hcl, hce⟩ := World.cells?_some h1
        obtain ⟨b, off, spot⟩ := a
        subst hspot
        have c0 := hce 0 (by omega)
        rw [Addr.add_mid, Addr.add_mid] at c0
        refine ⟨b, off, y.2.1, y.2.2, rfl, block_lt c0, fun j v hv => ?_, h3⟩
        have hj : j < 3 := by have := (List.getElem?_eq_some_iff.1 hv).1; simpa [acL] using this
        have := hce j hj
        rw [Addr.add_mid, Addr.add_mid, hv] at this
        exact this
    · obtain ⟨y, hy, rfl⟩ := List.mem_map.1 ht
      obtain ⟨i, hi, rfl⟩ := List.getElem_of_mem hy
      exact (hlp i _ (List.getElem?_eq_getElem hi)).2.1
set_option maxRecDepth 8000 in
set_option maxRecDepth 8000 in
/-- A BUILD THAT CAME IN -/
theorem open_graph {H : Type} {enc : TypeId × Value → H} {W : World} {base : Nat} {v : Value} {d : DataW H} {p : List MemPlace}
    (hok : Value.okWide Tryz.prog W .any base 25 v) (h : DataW.Trod enc Tryz.prog W 0 (fun _ => true) true 25 v d p) :
    ∃ (g : RC.Gr) (sa : Option Addr) (sc : Nat) (aa : Option Addr) (ac : Nat), v = .agg (gv g sa sc aa ac) ∧ GA W.heap.size W g sa sc aa ac ∧ grOk g := by
  obtain ⟨fuel, hf⟩ := h
  obtain ⟨xs, n, _, hx, hcl, hxl, hfi⟩ := DataW.trod_struct Tryz.underlying25 hf
  rw [cGr] at hcl
  have hlen : v.cells.size = 2 := by rw [← Array.length_toList, hcl]
  have hv : ∃ cs, v = .agg cs := by
    cases v <;> simp [Value.cells] at hlen
    exact ⟨_, rfl⟩
  obtain ⟨cs, rfl⟩ := hv
  obtain ⟨cs⟩ := cs
  have g : ∀ (i : Nat), i < 2 → ∃ x, xs[i]? = some x := fun i hi => ⟨xs[i]'(by rw [hxl]; exact hi), List.getElem?_eq_getElem _⟩
  obtain ⟨x0, e0⟩ := g 0 (by omega)
  obtain ⟨x1, e1⟩ := g 1 (by omega)
  have f0 := hfi 0 _ rfl
  have f1 := hfi 1 _ rfl
  rw [e0] at f0
  rw [e1] at f1
  obtain ⟨d0, p0⟩ := x0
  obtain ⟨d1, p1⟩ := x1
  have f0' : DataW.trod enc Tryz.prog W 0 (fun _ => true) true n 22 ((cs.drop 0).take 1) = some (d0, p0) := f0
  have f1' : DataW.trod enc Tryz.prog W 0 (fun _ => true) true n 23 ((cs.drop 1).take 1) = some (d1, p1) := f1
  have hcl' : cs.length = 2 := by simpa [Value.cells] using hlen
  match cs, hcl' with
  | [c0, c1], _ =>
    simp only [List.drop_zero, List.drop_succ_cons, List.take_succ_cons, List.take_zero] at f0' f1'
    obtain ⟨sa, sc, S, q1, q2, q3, q4, _⟩ := open_texts_c f0'
    obtain ⟨aa, ac, A, r1, r2, r3, r4⟩ := open_acs f1'
    subst q1 r1
    exact ⟨(S, A), sa, sc, aa, ac, rfl, ⟨q2, r2⟩, ⟨q3, q4, r3, r4⟩⟩
end Go.Proofs.YtjbffhdccgmfpaaGreatDoor
