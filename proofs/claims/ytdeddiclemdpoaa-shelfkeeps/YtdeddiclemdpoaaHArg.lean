/- Calls and numbers that came in, opened. -/
import Derived.Test.YtdeddiclemdpoaaH7
import Derived.Test.YtdeddiclemdpoaaRows
import Derived.ProofKit
import Derived.OpenShut
import Derived.SliceStrings
namespace Go.Proofs.Ytdeddiclemdpoaa
open Go.ChangeShapes Go.WideShapes Go.ChangeAt Go.RowKit
set_option linter.unusedVariables false

theorem own : ownKnob Try.prog.godebug = none := by kernel_rfl
theorem laidOut : laidOutB Try.prog = true := by kernel_rfl
theorem block_lt {w : World} {b o : Nat} {v : Value} (h : w.cell? ⟨b, o, none⟩ = some v) : b < w.heap.size := by
  rcases Nat.lt_or_ge b w.heap.size with h' | h'
  · exact h'
  · unfold World.cell? at h
    rw [Array.getElem?_eq_none h'] at h
    simp at h
theorem wf_i64 {x : Int} (h : (Lit.int .i64 x).wf = true) : -9223372036854775808 ≤ x ∧ x ≤ 9223372036854775807 := by
  simpa [Lit.wf, IntKind.min, IntKind.max, IntKind.signed, IntKind.bits] using h
theorem list_of {α : Type} {P : Nat → α → Prop} : ∀ n : Nat, (∀ i, i < n → ∃ d, P i d) → ∃ l : List α, l.length = n ∧ ∀ i d, l[i]? = some d → P i d
  | 0, _ => ⟨[], rfl, fun i d h => by simp at h⟩
  | n + 1, h => by
    obtain ⟨l, hl, hp⟩ := list_of n (fun i hi => h i (by omega))
    obtain ⟨d, hd⟩ := h n (by omega)
    refine ⟨l ++ [d], by simp [hl], fun i x hx => ?_⟩
    by_cases hi : i < n
    · rw [List.getElem?_append_left (by omega)] at hx; exact hp i x hx
    · rw [List.getElem?_append_right (by omega)] at hx
      have hin : i = n := by
        have := (List.getElem?_eq_some_iff.1 hx).1
        simp at this; omega
      subst hin
      simp [hl] at hx; subst hx; exact hd
theorem cInt : Try.prog.cellsOf 3 = 1 := by kernel_rfl
theorem cAct : Try.prog.cellsOf 30 = 4 := by kernel_rfl

/-- NUMBERS THAT CAME IN -/
theorem open_ints_c {H : Type} {enc : TypeId × Value → H} {W : World} {fuel : Nat} {v : Value} {d : DataW H} {p : List MemPlace}
    (hf : DataW.trod enc Try.prog W 0 (fun _ => true) true fuel 28 [v] = some (d, p)) :
    ∃ (a : Option Addr) (c : Nat) (l : List Int), v = .slice a l.length c ∧ FI W a l ∧ l.length ≤ maxLen ∧ ∀ x ∈ l, -9223372036854775808 ≤ x ∧ x ≤ 9223372036854775807 := by
  rcases DataW.trod_slice Try.underlying28 hf with ⟨hcs, hx⟩ | ⟨a, len, cap, elems, rest, n, _, hcs, hx, hb, hl, hm, hlen, hel, _, _⟩
  · simp only [List.cons.injEq, and_true] at hcs
    subst hcs
    exact ⟨none, 0, [], rfl, fun i d h => by simp at h, by simp, by simp⟩
  · simp only [List.cons.injEq, and_true] at hcs
    subst hcs
    have key : ∀ i, i < len → ∃ z : Int, W.cells? 0 (a.add i) 1 = some [.int .i64 z] ∧ (-9223372036854775808 ≤ z ∧ z ≤ 9223372036854775807) := fun i hi => by
      have h := hel i hi
      rw [cInt, Nat.mul_one, List.getElem?_eq_getElem (by omega)] at h
      cases hc : W.cells? 0 (a.add i) 1 with
      | none => rw [hc] at h; simp at h
      | some cs =>
        rw [hc] at h
        simp only [Option.bind_some] at h
        obtain ⟨x, hx⟩ : ∃ x, elems[i] = x := ⟨_, rfl⟩
        rw [hx] at h
        obtain ⟨d, p⟩ := x
        obtain ⟨z, z1, z2, z3⟩ := DataW.trod_int Try.underlying3 h
        exact ⟨z, by rw [z1], wf_i64 z3⟩
    obtain ⟨l, hll, hlp⟩ := list_of len key
    have hcell : ∀ i x, l[i]? = some x → W.cell? (a.add i) = some (.int .i64 x) := fun i x hx => by
      obtain ⟨h1, h2⟩ := hlp i x hx
      obtain ⟨_, hcl, hce⟩ := World.cells?_some h1
      have h0 := hce 0 (by omega)
      simpa [Addr.add] using h0
    refine ⟨some a, cap, l, by rw [hll], fun i x hx => ?_, by rw [hll]; omega, fun x hx => ?_⟩
    · have h0 := hcell i x hx
      have hi : i < l.length := (List.getElem?_eq_some_iff.1 hx).1
      have h00 := hcell 0 _ (List.getElem?_eq_getElem (by omega : 0 < l.length))
      have hspot : a.spot = none := by simpa [Addr.add] using World.cell?_spot h00
      obtain ⟨b, off, spot⟩ := a
      subst hspot
      have h0' : W.cell? ⟨b, off + i, none⟩ = some (.int .i64 x) := by rw [add_plain] at h0; exact h0
      exact ⟨b, off, rfl, block_lt h0', h0'⟩
    · obtain ⟨i, hi⟩ := List.mem_iff_getElem?.1 hx
      exact (hlp i x hi).2
theorem open_ints {H : Type} {enc : TypeId × Value → H} {W : World} {base : Nat} {v : Value} {d : DataW H} {p : List MemPlace}
    (hok : Value.okWide Try.prog W .any base 28 v) (h : DataW.Trod enc Try.prog W 0 (fun _ => true) true 28 v d p) :
    ∃ (a : Option Addr) (c : Nat) (l : List Int), v = .slice a l.length c ∧ FI W a l ∧ l.length ≤ maxLen ∧ ∀ x ∈ l, -9223372036854775808 ≤ x ∧ x ≤ 9223372036854775807 := by
  obtain ⟨a, len, cap, rfl⟩ := okWide_slice Try.underlying28 hok
  obtain ⟨fuel, hf⟩ := h
  exact open_ints_c (fuel := fuel) (by simpa [Value.cells] using hf)

/-- one call's four cells -/
theorem act_of {H : Type} {enc : TypeId × Value → H} {W : World} {fuel : Nat} {cs : List Value} {d : DataW H} {p : List MemPlace}
    (h : DataW.trod enc Try.prog W 0 (fun _ => true) true fuel 30 cs = some (d, p)) :
    ∃ x : Ac, cs = [.int .i64 x.kind, .int .i64 x.at', .string (M.bs x.text), x.fates] ∧ (-9223372036854775808 ≤ x.at' ∧ x.at' ≤ 9223372036854775807) ∧ x.text.length ≤ maxLen ∧ (∃ a n c, x.fates = .slice a n c) := by
  obtain ⟨xs, n, _, hx, hcl, hxl, hfi⟩ := DataW.trod_struct Try.underlying30 h
  rw [cAct] at hcl
  have g : ∀ (i : Nat), i < 4 → ∃ x, xs[i]? = some x := fun i hi => ⟨xs[i]'(by rw [hxl]; exact hi), List.getElem?_eq_getElem _⟩
  obtain ⟨x0, e0⟩ := g 0 (by omega)
  obtain ⟨x1, e1⟩ := g 1 (by omega)
  obtain ⟨x2, e2⟩ := g 2 (by omega)
  obtain ⟨x3, e3⟩ := g 3 (by omega)
  have f0 := hfi 0 _ rfl
  have f1 := hfi 1 _ rfl
  have f2 := hfi 2 _ rfl
  have f3 := hfi 3 _ rfl
  rw [e0] at f0
  rw [e1] at f1
  rw [e2] at f2
  rw [e3] at f3
  obtain ⟨d0, p0⟩ := x0
  obtain ⟨d1, p1⟩ := x1
  obtain ⟨d2, p2⟩ := x2
  obtain ⟨d3, p3⟩ := x3
  have f0' : DataW.trod enc Try.prog W 0 (fun _ => true) true n 3 ((cs.drop 0).take 1) = some (d0, p0) := f0
  have f1' : DataW.trod enc Try.prog W 0 (fun _ => true) true n 3 ((cs.drop 1).take 1) = some (d1, p1) := f1
  have f2' : DataW.trod enc Try.prog W 0 (fun _ => true) true n 9 ((cs.drop 2).take 1) = some (d2, p2) := f2
  have f3' : DataW.trod enc Try.prog W 0 (fun _ => true) true n 28 ((cs.drop 3).take 1) = some (d3, p3) := f3
  match cs, hcl with
  | [c0, c1, c2, c3], _ =>
    simp only [List.drop_zero, List.drop_succ_cons, List.take_succ_cons, List.take_zero] at f0' f1' f2' f3'
    obtain ⟨z, z1, z2, z3⟩ := DataW.trod_int Try.underlying3 f0'
    obtain ⟨y, y1, y2, y3⟩ := DataW.trod_int Try.underlying3 f1'
    obtain ⟨fa, fc, fl, q1, _⟩ := open_ints_c f3'
    obtain ⟨s, s1, s2, s3⟩ := DataW.trod_string Try.underlying9 f2'
    simp only [List.cons.injEq, and_true] at z1 y1 s1
    subst z1 y1 s1 q1
    exact ⟨⟨z, y, s.data.toList, _⟩, by rw [M.bs_of], wf_i64 y3, by rw [← Lib.size_eq]; exact s3, ⟨_, _, _, rfl⟩⟩
/-- CALLS THAT CAME IN -/
theorem open_acts {H : Type} {enc : TypeId × Value → H} {W : World} {base : Nat} {v : Value} {d : DataW H} {p : List MemPlace}
    (hok : Value.okWide Try.prog W .any base 22 v) (h : DataW.Trod enc Try.prog W 0 (fun _ => true) true 22 v d p) :
    ∃ (a : Option Addr) (c : Nat) (l : List Ac), v = .slice a l.length c ∧ AC W a l ∧ l.length ≤ maxLen := by
  obtain ⟨a0, len0, cap0, rfl⟩ := okWide_slice Try.underlying22 hok
  obtain ⟨fuel, hf0⟩ := h
  have hf : DataW.trod enc Try.prog W 0 (fun _ => true) true fuel 22 [.slice a0 len0 cap0] = some (d, p) := by simpa [Value.cells] using hf0
  rcases DataW.trod_slice Try.underlying22 hf with ⟨hcs, hx⟩ | ⟨a, len, cap, elems, rest, n, _, hcs, hx, hb, hl, hm, hlen, hel, _, _⟩
  · simp only [List.cons.injEq, and_true] at hcs
    rw [hcs]
    exact ⟨none, 0, [], rfl, fun i d h => by simp at h, by simp⟩
  · simp only [List.cons.injEq, and_true] at hcs
    rw [hcs]
    have key : ∀ i, i < len → ∃ x : Ac, W.cells? 0 (a.add (i * 4)) 4 = some [.int .i64 x.kind, .int .i64 x.at', .string (M.bs x.text), x.fates] ∧ (-9223372036854775808 ≤ x.at' ∧ x.at' ≤ 9223372036854775807) ∧ x.text.length ≤ maxLen ∧ (∃ a n c, x.fates = .slice a n c) := fun i hi => by
      have h := hel i hi
      rw [cAct, List.getElem?_eq_getElem (by omega)] at h
      cases hc : W.cells? 0 (a.add (i * 4)) 4 with
      | none => rw [hc] at h; simp at h
      | some cs =>
        rw [hc] at h
        simp only [Option.bind_some] at h
        obtain ⟨x, hx⟩ : ∃ x, elems[i] = x := ⟨_, rfl⟩
        rw [hx] at h
        obtain ⟨d, p⟩ := x
        obtain ⟨y, y1, y2⟩ := act_of h
        exact ⟨y, by rw [y1], y2⟩
    obtain ⟨l, hll, hlp⟩ := list_of len key
    refine ⟨some a, cap, l, by rw [hll], fun i x hx => ?_, by rw [hll]; omega⟩
    have hspot : a.spot = none := by
      have hi : i < l.length := (List.getElem?_eq_some_iff.1 hx).1
      obtain ⟨g1, g2⟩ := hlp 0 _ (List.getElem?_eq_getElem (by omega : 0 < l.length))
      obtain ⟨_, _, gce⟩ := World.cells?_some g1
      have g0 := gce 0 (by omega)
      have := World.cell?_spot g0
      simpa [Addr.add] using this
    obtain ⟨h1, h2, h3, h4⟩ := hlp i x hx
    obtain ⟨_, hcl, hce⟩ := World.cells?_some h1
    obtain ⟨b, off, spot⟩ := a
    subst hspot
    have c0 := hce 0 (by omega)
    have c1 := hce 1 (by omega)
    have c2 := hce 2 (by omega)
    have c3 := hce 3 (by omega)
    rw [add_plain, add_plain] at c0 c1 c2 c3
    have c0' : W.cell? ⟨b, off + i * 4, none⟩ = some (.int .i64 x.kind) := c0
    exact ⟨b, off, rfl, block_lt c0', c0', c1, c2, c3, h2, h3, h4⟩
end Go.Proofs.Ytdeddiclemdpoaa
