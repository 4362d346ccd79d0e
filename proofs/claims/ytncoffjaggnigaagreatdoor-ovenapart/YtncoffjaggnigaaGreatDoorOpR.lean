/- Results and records that came in, opened. -/
import Derived.Test.YtncoffjaggnigaaGreatDoorOpS
import Derived.Test.YtncoffjaggnigaaGreatDoorOC
import Derived.Test.YtncoffjaggnigaaGreatDoorLaid
namespace Go.Proofs.YtncoffjaggnigaaGreatDoor
open Go.ChangeShapes Go.WideShapes Go.ChangeAt Go.RowKit
set_option linter.unusedVariables false
set_option maxRecDepth 8000

theorem cRec5 : Tryz.prog.cellsOf 64 = 65 := by kernel_rfl
theorem dig_of {H : Type} {enc : TypeId × Value → H} {W : World} {fuel : Nat} {cs : List Value} {d : DataW H} {p : List MemPlace}
    (h : DataW.trod enc Tryz.prog W 0 (fun _ => true) true fuel 51 cs = some (d, p)) : ∃ a : List UInt8, a.length = 32 ∧ cs = a.map vb := by
  obtain ⟨zs, hz0, hz1, hz2, hp, hw⟩ := open_arr und27 Tryz.underlying5 c5 c27 h
  refine ⟨zs.map fun z => UInt8.ofNat z.toNat, by simp [hz0], ?_⟩
  rw [hz1, List.map_map]
  apply List.map_congr_left
  intro z hz
  have hb := hw z hz
  simp [Lit.wf, IntKind.min, IntKind.max, IntKind.signed, IntKind.bits] at hb
  show Value.int .u8 z = Value.int .u8 ((UInt8.ofNat z.toNat).toNat : Int)
  rw [UInt8.toNat_ofNat_of_lt' (by show z.toNat < 256; omega)]
  congr 1; omega
theorem cut3 {α : Type} (cs : List α) (n m : Nat) (h : cs.length = n + 1 + m) {a c : List α} {b : α} (ha : cs.take n = a) (hb : (cs.drop n).take 1 = [b]) (hc : (cs.drop (n + 1)).take m = c) : cs = a ++ (b :: c) := by
  have e1 : cs.drop (n + 1) = c := by rw [← hc, List.take_of_length_le (by simp; omega)]
  have e2 : cs.drop n = b :: c := by
    have : cs.drop n = (cs.drop n).take 1 ++ (cs.drop n).drop 1 := (List.take_append_drop _ _).symm
    rw [this, hb, List.drop_drop, e1]
    rfl
  rw [← List.take_append_drop n cs, ha, e2]
/-- a record's cells -/

theorem rec_of {H : Type} {enc : TypeId × Value → H} {W : World} {fuel : Nat} {cs : List Value} {d : DataW H} {p : List MemPlace}
    (h : DataW.trod enc Tryz.prog W 0 (fun _ => true) true fuel 64 cs = some (d, p)) : ∃ r : V.Rc, Rc32 r ∧ cs = rvL r := by
  obtain ⟨xs, n, _, hx, hcl, hxl, hfi⟩ := DataW.trod_struct Tryz.underlying64 h
  rw [cRec5] at hcl
  have g : ∀ (i : Nat), i < 3 → ∃ x, xs[i]? = some x := fun i hi => ⟨xs[i]'(by rw [hxl]; exact hi), List.getElem?_eq_getElem _⟩
  obtain ⟨x0, e0⟩ := g 0 (by omega)
  obtain ⟨x1, e1⟩ := g 1 (by omega)
  obtain ⟨x2, e2⟩ := g 2 (by omega)
  have f0 := hfi 0 _ rfl
  have f1 := hfi 1 _ rfl
  have f2 := hfi 2 _ rfl
  rw [e0] at f0
  rw [e1] at f1
  rw [e2] at f2
  obtain ⟨d0, p0⟩ := x0
  obtain ⟨d1, p1⟩ := x1
  obtain ⟨d2, p2⟩ := x2
  have f0' : DataW.trod enc Tryz.prog W 0 (fun _ => true) true n 51 ((cs.drop 0).take 32) = some (d0, p0) := f0
  have f1' : DataW.trod enc Tryz.prog W 0 (fun _ => true) true n 30 ((cs.drop 32).take 1) = some (d1, p1) := f1
  have f2' : DataW.trod enc Tryz.prog W 0 (fun _ => true) true n 51 ((cs.drop 33).take 32) = some (d2, p2) := f2
  obtain ⟨ka, k1, k2⟩ := dig_of f0'
  obtain ⟨z, z1, z2, z3⟩ := DataW.trod_int Tryz.underlying30 f1'
  obtain ⟨oa, o1, o2⟩ := dig_of f2'
  have hz := wf_i64 z3
  refine ⟨⟨ka, z, oa⟩, ⟨k1, o1, hz.1, by have := hz.2; show z ≤ _; omega⟩, ?_⟩
  exact cut3 cs 32 32 hcl (by simpa using k2) z1 o2
set_option maxRecDepth 100000 in
/-- A RECORD THAT CAME IN -/
theorem open_record {H : Type} {enc : TypeId × Value → H} {W : World} {base : Nat} {v : Value} {d : DataW H} {p : List MemPlace}
    (hok : Value.okWide Tryz.prog W .any base 64 v) (h : DataW.Trod enc Tryz.prog W 0 (fun _ => true) true 64 v d p) :
    ∃ r : V.Rc, v = .agg (rv r) ∧ Rc32 r := by
  obtain ⟨fuel, hf⟩ := h
  obtain ⟨r, h1, h2⟩ := rec_of hf
  refine ⟨r, ?_, h1⟩
  have hlen : v.cells.size = 65 := by rw [← Array.length_toList, h2, rvL_length h1]
  have hv : ∃ cs, v = .agg cs := by
    cases v <;> simp [Value.cells] at hlen
    exact ⟨_, rfl⟩
  obtain ⟨cs, rfl⟩ := hv
  congr 1
  apply Array.toList_inj.1
  unfold rv
  exact h2
set_option maxRecDepth 100000 in
/-- RESULTS THAT CAME IN -/
theorem open_results {H : Type} {enc : TypeId × Value → H} {W : World} {base : Nat} {v : Value} {d : DataW H} {p : List MemPlace}
    (hok : Value.okWide Tryz.prog W .any base 55 v) (h : DataW.Trod enc Tryz.prog W 0 (fun _ => true) true 55 v d p) :
    ∃ (a : Option Addr) (c : Nat) (l : List O.Re), v = .slice a l.length c ∧ RS lyR W a l ∧ l.length ≤ maxLen ∧ ∀ t ∈ l, -9223372036854775808 ≤ t.1 ∧ t.1 ≤ 9223372036854775807 ∧ t.2.length ≤ 9223372036854775807 := by
  obtain ⟨a0, len0, cap0, rfl⟩ := okWide_slice Tryz.underlying55 hok
  obtain ⟨fuel, hf0⟩ := h
  have hf : DataW.trod enc Tryz.prog W 0 (fun _ => true) true fuel 55 [.slice a0 len0 cap0] = some (d, p) := by simpa [Value.cells] using hf0
  exact open_rows lyR (fun t => -9223372036854775808 ≤ t.1 ∧ t.1 ≤ 9223372036854775807 ∧ t.2.length ≤ 9223372036854775807) Tryz.underlying55 cRe (fun n cs d p h => re_of h) hf
end Go.Proofs.YtncoffjaggnigaaGreatDoor
