/- A manifest that came in, opened. -/
import Derived.Test.YtahdmhenkjbimaaDoorC3
import Derived.Test.YtahdmhenkjbimaaDoorLaid
namespace Go.Proofs.YtahdmhenkjbimaaDoor
open Go.ChangeShapes Go.WideShapes Go.ChangeAt Go.WideMaps Go.WideElems Go.RowKit
set_option linter.unusedVariables false

theorem list_of {α : Type} {P : Nat → α → Prop} : ∀ n : Nat, (∀ i, i < n → ∃ d, P i d) → ∃ l : List α, l.length = n ∧ ∀ i d, l[i]? = some d → P i d
  | 0, _ => ⟨[], rfl, fun i d h => by simp at h⟩
  | n + 1, h => by
    obtain ⟨l, hl, hp⟩ := list_of n (fun i hi => h i (by omega))
    obtain ⟨d, hd⟩ := h n (by omega)
    refine ⟨l ++ [d], by simp [hl], fun i x hx => ?_⟩
    by_cases hi : i < n
    · rw [List.getElem?_append_left (by omega)] at hx; exact hp i x hx
    · rw [List.getElem?_append_right (by omega)] at hx
      have hin : i = n := by
        have := (List.getElem?_eq_some_iff.1 hx).1
        simp at this; omega
      subst hin
      simp [hl] at hx; subst hx; exact hd
/-- a digest's cells, as bytes -/
theorem bytes_of {H : Type} {enc : TypeId × Value → H} {W : World} {fuel : Nat} {cs : List Value} {d : DataW H} {p : List MemPlace}
    (h : DataW.trod enc Tryd.prog W 0 (fun _ => true) true fuel 23 cs = some (d, p)) : ∃ a : List UInt8, a.length = 32 ∧ cs = a.map vb := by
  obtain ⟨zs, hz0, hz1, hz2, hp, hw⟩ := open_arr und27 Tryd.underlying5 c5 c27 h
  refine ⟨zs.map fun z => UInt8.ofNat z.toNat, by simp [hz0], ?_⟩
  rw [hz1, List.map_map]
  apply List.map_congr_left
  intro z hz
  have hb := hw z hz
  simp [Lit.wf, IntKind.min, IntKind.max, IntKind.signed, IntKind.bits] at hb
  show Value.int .u8 z = Value.int .u8 ((UInt8.ofNat z.toNat).toNat : Int)
  rw [UInt8.toNat_ofNat_of_lt' (by show z.toNat < 256; omega)]
  congr 1; omega
theorem open_dgs {H : Type} {enc : TypeId × Value → H} {W : World} {fuel : Nat} {v : Value} {d : DataW H} {p : List MemPlace}
    (hf : DataW.trod enc Tryd.prog W 0 (fun _ => true) true fuel 24 [v] = some (d, p)) :
    ∃ (a : Option Addr) (c : Nat) (l : List (List UInt8)), v = .slice a l.length c ∧ Dgs W.heap.size W a l ∧ l.length ≤ maxLen ∧ l.length ≤ c := by
  rcases DataW.trod_slice Tryd.underlying24 hf with ⟨hcs, hx⟩ | ⟨a, len, cap, elems, rest, n, _, hcs, hx, hb, hl, hm, hlen, hel, _, _⟩
  · simp only [List.cons.injEq, and_true] at hcs
    subst hcs
    exact ⟨none, 0, [], rfl, fun i d h => by simp at h, by simp, by simp⟩
  · simp only [List.cons.injEq, and_true] at hcs
    subst hcs
    have key : ∀ i, i < len → ∃ d : List UInt8, d.length = 32 ∧ W.cells? 0 (a.add (i * 32)) 32 = some (d.map vb) := fun i hi => by
      have h := hel i hi
      rw [c27, List.getElem?_eq_getElem (by omega)] at h
      cases hc : W.cells? 0 (a.add (i * 32)) 32 with
      | none => rw [hc] at h; simp at h
      | some cs =>
        rw [hc] at h
        simp only [Option.bind_some] at h
        obtain ⟨x, hx⟩ : ∃ x, elems[i] = x := ⟨_, rfl⟩
        rw [hx] at h
        obtain ⟨d, p⟩ := x
        obtain ⟨b, hb1, hb2⟩ := bytes_of h
        exact ⟨b, hb1, by rw [hb2]⟩
    obtain ⟨l, hll, hlp⟩ := list_of len key
    refine ⟨some a, cap, l, by rw [hll], fun i d hd => ?_, by rw [hll]; omega, by rw [hll]; omega⟩
    obtain ⟨h1, h2⟩ := hlp i d hd
    refine ⟨h1, ?_⟩
    have hspot : a.spot = none := by
      have hi : i < l.length := (List.getElem?_eq_some_iff.1 hd).1
      have hd0 : l[0]? = some (l[0]'(by omega)) := List.getElem?_eq_getElem _
      obtain ⟨g1, g2⟩ := hlp 0 _ hd0
      obtain ⟨_, _, gce⟩ := World.cells?_some g2
      have g0 := gce 0 (by omega)
      rw [List.getElem?_eq_getElem (by simp; omega)] at g0
      have := World.cell?_spot g0
      simpa [Addr.add] using this
    obtain ⟨_, hcl, hce⟩ := World.cells?_some h2
    have h0 := hce 0 (by omega)
    obtain ⟨b, off, spot⟩ := a
    subst hspot
    rw [List.getElem?_eq_getElem (by simp; omega)] at h0
    refine ⟨b, off, rfl, ?_, fun j u hu => ?_⟩
    · rw [Addr.add_mid, Addr.add_mid] at h0
      exact block_lt h0
    · have hj : j < 32 := by have := (List.getElem?_eq_some_iff.1 hu).1; simpa [h1] using this
      have := hce j hj
      rw [Addr.add_mid, Addr.add_mid, hu] at this
      exact this

set_option maxRecDepth 8000 in
/-- A MANIFEST THAT CAME IN -/
theorem open_mani {H : Type} {enc : TypeId × Value → H} {W : World} {base : Nat} {v : Value} {d : DataW H} {p : List MemPlace}
    (hok : Value.okWide Tryd.prog W .any base 26 v) (h : DataW.Trod enc Tryd.prog W 0 (fun _ => true) true 26 v d p) :
    ∃ (wh : List UInt8) (sz : Int) (pa : Option Addr) (pc : Nat) (ps : List (List UInt8)), v = .agg (mv wh sz pa ps.length pc) ∧ wh.length = 32 ∧ (-9223372036854775808 ≤ sz ∧ sz < 9223372036854775808) ∧ Dgs W.heap.size W pa ps ∧ ps.length ≤ maxLen := by
  obtain ⟨fuel, hf⟩ := h
  obtain ⟨xs, n, _, hx, hcl, hxl, hfi⟩ := DataW.trod_struct Tryd.underlying26 hf
  have hlen : v.cells.size = 34 := by rw [← Array.length_toList, hcl]; kernel_rfl
  have hv : ∃ cs, v = .agg cs := by
    cases v <;> simp [Value.cells] at hlen
    exact ⟨_, rfl⟩
  obtain ⟨cs, rfl⟩ := hv
  have g : ∀ (i : Nat), i < 3 → ∃ x, xs[i]? = some x := fun i hi => ⟨xs[i]'(by rw [hxl]; exact hi), List.getElem?_eq_getElem _⟩
  obtain ⟨x0, e0⟩ := g 0 (by omega)
  obtain ⟨x1, e1⟩ := g 1 (by omega)
  obtain ⟨x2, e2⟩ := g 2 (by omega)
  have f0 := hfi 0 _ rfl
  have f1 := hfi 1 _ rfl
  have f2 := hfi 2 _ rfl
  rw [e0] at f0
  rw [e1] at f1
  rw [e2] at f2
  have l34 : cs.toList.length = 34 := by rw [Array.length_toList]; exact hlen
  obtain ⟨d0, p0⟩ := x0
  obtain ⟨d1, p1⟩ := x1
  obtain ⟨d2, p2⟩ := x2
  have f0' : DataW.trod enc Tryd.prog W 0 (fun _ => true) true n 23 ((cs.toList.drop 0).take 32) = some (d0, p0) := f0
  have f1' : DataW.trod enc Tryd.prog W 0 (fun _ => true) true n 3 ((cs.toList.drop 32).take 1) = some (d1, p1) := f1
  have f2' : DataW.trod enc Tryd.prog W 0 (fun _ => true) true n 24 ((cs.toList.drop 33).take 1) = some (d2, p2) := f2
  obtain ⟨wh, hw1, hw2⟩ := bytes_of f0'
  obtain ⟨z, z1, z2, z3⟩ := DataW.trod_int Tryd.underlying3 f1'
  have s33 : (cs.toList.drop 33).take 1 = [cs.toList[33]'(by omega)] := by
    rw [List.drop_eq_getElem_cons (by omega)]; simp
  rw [s33] at f2'
  obtain ⟨pa, pc, ps, q1, q2, q3, _⟩ := open_dgs f2'
  refine ⟨wh, z, pa, pc, ps, ?_, hw1, wf_i64 z3, q2, q3⟩
  congr 1
  apply Array.ext'
  show cs.toList = wh.map vb ++ [Value.int .i64 z, Value.slice pa ps.length pc]
  have e : cs.toList = cs.toList.take 32 ++ ((cs.toList.drop 32).take 1 ++ (cs.toList.drop 33)) := by
    conv => lhs; rw [← List.take_append_drop 32 cs.toList]
    congr 1
    conv => lhs; rw [← List.take_append_drop 1 (cs.toList.drop 32)]
    rw [List.drop_drop]
  have d33 : cs.toList.drop 33 = [cs.toList[33]'(by omega)] := by
    rw [List.drop_eq_getElem_cons (by omega), List.drop_of_length_le (by omega)]
  rw [e, z1, d33, q1]
  rw [List.drop_zero] at hw2
  rw [hw2]; rfl
end Go.Proofs.YtahdmhenkjbimaaDoor
