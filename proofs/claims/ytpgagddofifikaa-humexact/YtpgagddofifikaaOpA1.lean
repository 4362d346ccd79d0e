/- The law's calls that came in, opened. -/
import Derived.Test.YtpgagddofifikaaOpK
import Derived.Test.YtpgagddofifikaaHuA
namespace Go.Proofs.Ytpgagddofifikaa
open Go.ChangeShapes Go.WideShapes Go.ChangeAt Go.RowKit
set_option linter.unusedVariables false

theorem cMs11 : Try.prog.cellsOf 28 = 1 := by kernel_rfl
theorem cAc11 : Try.prog.cellsOf 30 = 3 := by kernel_rfl
set_option maxRecDepth 8000 in
theorem ac_of {H : Type} {enc : TypeId × Value → H} {W : World} {fuel : Nat} {cs : List Value} {d : DataW H} {p : List MemPlace}
    (h : DataW.trod enc Try.prog W 0 (fun _ => true) true fuel 30 cs = some (d, p)) : ∃ t : Ac11, cs = lyA.f t ∧ ac11Ok W t := by
  obtain ⟨xs, n, _, hx, hcl, hxl, hfi⟩ := DataW.trod_struct Try.underlying30 h
  rw [cAc11] at hcl
  have g : ∀ (i : Nat), i < 3 → ∃ x, xs[i]? = some x := fun i hi => ⟨xs[i]'(by rw [hxl]; exact hi), List.getElem?_eq_getElem _⟩
  obtain ⟨⟨d0, p0⟩, e0⟩ := g 0 (by omega)
  obtain ⟨⟨d1, p1⟩, e1⟩ := g 1 (by omega)
  obtain ⟨⟨d2, p2⟩, e2⟩ := g 2 (by omega)
  have f0 := hfi 0 _ rfl
  have f1 := hfi 1 _ rfl
  have f2 := hfi 2 _ rfl
  rw [e0] at f0
  rw [e1] at f1
  rw [e2] at f2
  have f0' : DataW.trod enc Try.prog W 0 (fun _ => true) true n 3 ((cs.drop 0).take 1) = some (d0, p0) := f0
  have f1' : DataW.trod enc Try.prog W 0 (fun _ => true) true n 28 ((cs.drop 1).take 1) = some (d1, p1) := f1
  have f2' : DataW.trod enc Try.prog W 0 (fun _ => true) true n 3 ((cs.drop 2).take 1) = some (d2, p2) := f2
  match cs, hcl with
  | [c0, c1, c2], _ =>
    simp only [List.drop_zero, List.drop_succ_cons, List.take_succ_cons, List.take_zero] at f0' f1' f2'
    obtain ⟨x, i1, i2, i3⟩ := DataW.trod_int Try.underlying3 f0'
    obtain ⟨z, k1, k2, k3⟩ := DataW.trod_int Try.underlying3 f2'
    obtain ⟨a, c, l, rfl, h1, h2, h3⟩ := open_rows lyM okM Try.underlying28 cMe (fun n cs d p h => me_of h) f1'
    simp only [List.cons.injEq, and_true] at i1 k1
    subst i1 k1
    exact ⟨(x, (a, c, l), z), rfl, h1, h2, wf_i64 k3⟩
set_option maxRecDepth 100000 in
/-- THE LAW's CALLS THAT CAME IN -/
theorem open_acts11 {H : Type} {enc : TypeId × Value → H} {W : World} {base : Nat} {v : Value} {d : DataW H} {p : List MemPlace}
    (hok : Value.okWide Try.prog W .any base 22 v) (h : DataW.Trod enc Try.prog W 0 (fun _ => true) true 22 v d p) :
    ∃ (a : Option Addr) (c : Nat) (l : List Ac11), v = .slice a l.length c ∧ RS lyA W a l ∧ l.length ≤ maxLen ∧ ∀ t ∈ l, ac11Ok W t := by
  obtain ⟨a0, len0, cap0, rfl⟩ := okWide_slice Try.underlying22 hok
  obtain ⟨fuel, hf0⟩ := h
  have hf : DataW.trod enc Try.prog W 0 (fun _ => true) true fuel 22 [.slice a0 len0 cap0] = some (d, p) := by simpa [Value.cells] using hf0
  exact open_rows lyA (ac11Ok W) Try.underlying22 cAc11 (fun n cs d p h => ac_of h) hf
end Go.Proofs.Ytpgagddofifikaa
