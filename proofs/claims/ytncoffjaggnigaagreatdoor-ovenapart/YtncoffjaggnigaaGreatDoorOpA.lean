/- Makings that came in, opened. -/
import Derived.Test.YtncoffjaggnigaaGreatDoorOpR
namespace Go.Proofs.YtncoffjaggnigaaGreatDoor
open Go.ChangeShapes Go.WideShapes Go.ChangeAt Go.RowKit
set_option linter.unusedVariables false
set_option maxRecDepth 8000

theorem cMkA : Tryz.prog.cellsOf 57 = 2 := by kernel_rfl
/-- a result that an int and a text hold -/
def ReIn (t : O.Re) : Prop := -9223372036854775808 ≤ t.1 ∧ t.1 ≤ 9223372036854775807 ∧ t.2.length ≤ 9223372036854775807
theorem mk_of9 {H : Type} {enc : TypeId × Value → H} {W : World} {fuel : Nat} {cs : List Value} {d : DataW H} {p : List MemPlace}
    (h : DataW.trod enc Tryz.prog W 0 (fun _ => true) true fuel 57 cs = some (d, p)) :
    ∃ (code : List UInt8) (a : Option Addr) (c : Nat) (l : List O.Re), cs = [.string (M.bs code), .slice a l.length c] ∧ RS lyR W a l ∧ l.length ≤ 9223372036854775807 ∧ code.length ≤ 9223372036854775807 ∧ ∀ t ∈ l, ReIn t := by
  obtain ⟨xs, n, _, hx, hcl, hxl, hfi⟩ := DataW.trod_struct Tryz.underlying57 h
  rw [cMkA] at hcl
  have g : ∀ (i : Nat), i < 2 → ∃ x, xs[i]? = some x := fun i hi => ⟨xs[i]'(by rw [hxl]; exact hi), List.getElem?_eq_getElem _⟩
  obtain ⟨⟨d0, p0⟩, e0⟩ := g 0 (by omega)
  obtain ⟨⟨d1, p1⟩, e1⟩ := g 1 (by omega)
  have f0 := hfi 0 _ rfl
  have f1 := hfi 1 _ rfl
  rw [e0] at f0
  rw [e1] at f1
  have f0' : DataW.trod enc Tryz.prog W 0 (fun _ => true) true n 9 ((cs.drop 0).take 1) = some (d0, p0) := f0
  have f1' : DataW.trod enc Tryz.prog W 0 (fun _ => true) true n 55 ((cs.drop 1).take 1) = some (d1, p1) := f1
  match cs, hcl with
  | [c0, c1], _ =>
    simp only [List.drop_zero, List.drop_succ_cons, List.take_succ_cons, List.take_zero] at f0' f1'
    obtain ⟨s, s1, s2, s3⟩ := DataW.trod_string Tryz.underlying9 f0'
    simp only [List.cons.injEq, and_true] at s1
    subst s1
    obtain ⟨a, c, l, rfl, h1, h2, h3⟩ := open_rows lyR ReIn Tryz.underlying55 cRe (fun n cs d p h => re_of h) f1'
    exact ⟨s.data.toList, a, c, l, by rw [M.bs_of], h1, Nat.le_trans h2 (by decide), by rw [← Lib.size_eq]; exact Nat.le_trans s3 (by decide), h3⟩
set_option maxRecDepth 100000 in
/-- A MAKING THAT CAME IN -/
theorem open_making {H : Type} {enc : TypeId × Value → H} {W : World} {base : Nat} {v : Value} {d : DataW H} {p : List MemPlace}
    (hok : Value.okWide Tryz.prog W .any base 57 v) (h : DataW.Trod enc Tryz.prog W 0 (fun _ => true) true 57 v d p) :
    ∃ (code : List UInt8) (a : Option Addr) (c : Nat) (l : List O.Re), v = .agg #[.string (M.bs code), .slice a l.length c] ∧ RS lyR W a l ∧ l.length ≤ 9223372036854775807 ∧ code.length ≤ 9223372036854775807 ∧ ∀ t ∈ l, ReIn t := by
  obtain ⟨fuel, hf⟩ := h
  obtain ⟨code, a, c, l, h1, h2⟩ := mk_of9 hf
  refine ⟨code, a, c, l, ?_, h2⟩
  have hlen : v.cells.size = 2 := by rw [← Array.length_toList, h1]; rfl
  have hv : ∃ cs, v = .agg cs := by
    cases v <;> simp [Value.cells] at hlen
    exact ⟨_, rfl⟩
  obtain ⟨cs, rfl⟩ := hv
  congr 1
  apply Array.toList_inj.1
  exact h1
end Go.Proofs.YtncoffjaggnigaaGreatDoor
