/- Records and ranges that came in, opened. -/
import Derived.Test.YtfbjakhanjbaeaaDoorHq8
import Derived.Test.YtfbjakhanjbaeaaDoorLaid
import Derived.Test.YtfbjakhanjbaeaaDoorRows
import Derived.ProofKit
import Derived.OpenShut
import Derived.SliceStrings
namespace Go.Proofs.YtfbjakhanjbaeaaDoor
open Go.ChangeShapes Go.WideShapes Go.ChangeAt Go.RowKit
set_option linter.unusedVariables false
set_option maxRecDepth 8000

theorem list_ofG {α : Type} {P : Nat → α → Prop} : ∀ n : Nat, (∀ i, i < n → ∃ d, P i d) → ∃ l : List α, l.length = n ∧ ∀ i d, l[i]? = some d → P i d
  | 0, _ => ⟨[], rfl, fun i d h => by simp at h⟩
  | n + 1, h => by
    obtain ⟨l, hl, hp⟩ := list_ofG n (fun i hi => h i (by omega))
    obtain ⟨d, hd⟩ := h n (by omega)
    refine ⟨l ++ [d], by simp [hl], fun i x hx => ?_⟩
    by_cases hi : i < n
    · rw [List.getElem?_append_left (by omega)] at hx; exact hp i x hx
    · rw [List.getElem?_append_right (by omega)] at hx
      have hin : i = n := by
        have := (List.getElem?_eq_some_iff.1 hx).1
        simp at this; omega
      subst hin
      simp [hl] at hx; subst hx; exact hd
theorem open_rows {α : Type} (E : Lay α) (ok : α → Prop) {T TS : TypeId} (hund : Tryd.prog.underlying TS = some (.slice T)) (hc : Tryd.prog.cellsOf T = E.k) {H : Type} {enc : TypeId × Value → H} {W : World}
    (one : ∀ (n : Nat) (cs : List Value) (d : DataW H) (p : List MemPlace), DataW.trod enc Tryd.prog W 0 (fun _ => true) true n T cs = some (d, p) → ∃ x, cs = E.f x ∧ ok x) {fuel : Nat} {v : Value} {d : DataW H} {p : List MemPlace}
    (hf : DataW.trod enc Tryd.prog W 0 (fun _ => true) true fuel TS [v] = some (d, p)) :
    ∃ (a : Option Addr) (c : Nat) (l : List α), v = .slice a l.length c ∧ RS E W a l ∧ l.length ≤ maxLen ∧ (∀ t ∈ l, ok t) ∧ (a = none → l = [] ∧ c = 0) := by
  have hk := E.pos
  rcases DataW.trod_slice hund hf with ⟨hcs, hx⟩ | ⟨a, len, cap, elems, rest, n, _, hcs, hx, hb, hl, hm, hlen, hel, _, _⟩
  · simp only [List.cons.injEq, and_true] at hcs
    subst hcs
    exact ⟨none, 0, [], rfl, fun i d h => by simp at h, by simp, fun t ht => by simp at ht, fun _ => ⟨rfl, rfl⟩⟩
  · simp only [List.cons.injEq, and_true] at hcs
    subst hcs
    have key : ∀ i, i < len → ∃ y : α, W.cells? 0 (a.add (i * E.k)) E.k = some (E.f y) ∧ ok y := fun i hi => by
      have h := hel i hi
      rw [hc, List.getElem?_eq_getElem (by omega)] at h
      cases hcc : W.cells? 0 (a.add (i * E.k)) E.k with
      | none => rw [hcc] at h; simp at h
      | some cs =>
        rw [hcc] at h
        simp only [Option.bind_some] at h
        obtain ⟨x, hx⟩ : ∃ x, elems[i] = x := ⟨_, rfl⟩
        rw [hx] at h
        obtain ⟨d, p⟩ := x
        obtain ⟨t, y1, y2⟩ := one _ _ _ _ h
        exact ⟨t, by rw [y1], y2⟩
    obtain ⟨l, hll, hlp⟩ := list_ofG len key
    refine ⟨some a, cap, l, by simp [hll], fun i t hi => ?_, by omega, fun t ht => ?_, fun h => by cases h⟩
    · obtain ⟨h1, h2⟩ := hlp i t hi
      have hspot : a.spot = none := by
        have hil : i < l.length := (List.getElem?_eq_some_iff.1 hi).1
        obtain ⟨g1, g2⟩ := hlp 0 _ (List.getElem?_eq_getElem (by omega : 0 < l.length))
        obtain ⟨_, _, gce⟩ := World.cells?_some g1
        have g0 := gce 0 (by omega)
        rw [List.getElem?_eq_getElem (by rw [E.len]; omega)] at g0
        have := World.cell?_spot g0
        simpa [Addr.add] using this
      obtain ⟨_, hcl, hce⟩ := World.cells?_some h1
      obtain ⟨b, off, spot⟩ := a
      subst hspot
      have c0 := hce 0 (by omega)
      rw [Addr.add_mid, Addr.add_mid, List.getElem?_eq_getElem (by rw [E.len]; omega)] at c0
      refine ⟨b, off, rfl, block_lt c0, fun j v hv => ?_⟩
      have hj : j < E.k := by have := (List.getElem?_eq_some_iff.1 hv).1; rw [E.len] at this; exact this
      have := hce j hj
      rw [Addr.add_mid, Addr.add_mid, hv] at this
      exact this
    · obtain ⟨i, hi, rfl⟩ := List.getElem_of_mem ht
      exact (hlp i _ (List.getElem?_eq_getElem hi)).2

theorem cRecH : Tryd.prog.cellsOf 48 = 65 := by kernel_rfl
theorem cRngH : Tryd.prog.cellsOf 26 = 35 := by kernel_rfl
theorem dig_of {H : Type} {enc : TypeId × Value → H} {W : World} {fuel : Nat} {cs : List Value} {d : DataW H} {p : List MemPlace}
    (h : DataW.trod enc Tryd.prog W 0 (fun _ => true) true fuel 24 cs = some (d, p)) : ∃ a : List UInt8, a.length = 32 ∧ cs = a.map vb := by
  obtain ⟨zs, hz0, hz1, hz2, hp, hw⟩ := open_arr und27 Tryd.underlying5 c5 c27 h
  refine ⟨zs.map fun z => UInt8.ofNat z.toNat, by simp [hz0], ?_⟩
  rw [hz1, List.map_map]
  apply List.map_congr_left
  intro z hz
  have hb := hw z hz
  simp [Lit.wf, IntKind.min, IntKind.max, IntKind.signed, IntKind.bits] at hb
  show Value.int .u8 z = Value.int .u8 ((UInt8.ofNat z.toNat).toNat : Int)
  rw [UInt8.toNat_ofNat_of_lt' (by show z.toNat < 256; omega)]
  congr 1; omega
theorem cut3 {α : Type} (cs : List α) (n m : Nat) (h : cs.length = n + 1 + m) {a c : List α} {b : α} (ha : cs.take n = a) (hb : (cs.drop n).take 1 = [b]) (hc : (cs.drop (n + 1)).take m = c) : cs = a ++ (b :: c) := by
  have e1 : cs.drop (n + 1) = c := by rw [← hc, List.take_of_length_le (by simp; omega)]
  have e2 : cs.drop n = b :: c := by
    have : cs.drop n = (cs.drop n).take 1 ++ (cs.drop n).drop 1 := (List.take_append_drop _ _).symm
    rw [this, hb, List.drop_drop, e1]
    rfl
  rw [← List.take_append_drop n cs, ha, e2]

theorem rec_of {H : Type} {enc : TypeId × Value → H} {W : World} {fuel : Nat} {cs : List Value} {d : DataW H} {p : List MemPlace}
    (h : DataW.trod enc Tryd.prog W 0 (fun _ => true) true fuel 48 cs = some (d, p)) : ∃ r : HG.R, cs = fR r ∧ True := by
  obtain ⟨xs, n, _, hx, hcl, hxl, hfi⟩ := DataW.trod_struct Tryd.underlying48 h
  rw [cRecH] at hcl
  have g : ∀ (i : Nat), i < 3 → ∃ x, xs[i]? = some x := fun i hi => ⟨xs[i]'(by rw [hxl]; exact hi), List.getElem?_eq_getElem _⟩
  obtain ⟨x0, e0⟩ := g 0 (by omega)
  obtain ⟨x1, e1⟩ := g 1 (by omega)
  obtain ⟨x2, e2⟩ := g 2 (by omega)
  have f0 := hfi 0 _ rfl
  have f1 := hfi 1 _ rfl
  have f2 := hfi 2 _ rfl
  rw [e0] at f0
  rw [e1] at f1
  rw [e2] at f2
  obtain ⟨d0, p0⟩ := x0
  obtain ⟨d1, p1⟩ := x1
  obtain ⟨d2, p2⟩ := x2
  have f0' : DataW.trod enc Tryd.prog W 0 (fun _ => true) true n 24 ((cs.drop 0).take 32) = some (d0, p0) := f0
  have f1' : DataW.trod enc Tryd.prog W 0 (fun _ => true) true n 28 ((cs.drop 32).take 1) = some (d1, p1) := f1
  have f2' : DataW.trod enc Tryd.prog W 0 (fun _ => true) true n 24 ((cs.drop 33).take 32) = some (d2, p2) := f2
  obtain ⟨ka, k1, k2⟩ := dig_of f0'
  obtain ⟨z, z1, z2, z3⟩ := DataW.trod_int Tryd.underlying28 f1'
  obtain ⟨oa, o1, o2⟩ := dig_of f2'
  have hz := wf_i64 z3
  exact ⟨⟨ka, z, oa, k1, o1, hz.1, by have := hz.2; show z ≤ _; omega⟩, cut3 cs 32 32 hcl (by simpa using k2) z1 o2, trivial⟩
theorem cut4 {α : Type} (cs : List α) (m : Nat) (h : cs.length = 3 + m) {a b e : α} {c : List α} (ha : (cs.drop 0).take 1 = [a]) (hb : (cs.drop 1).take 1 = [b]) (he : (cs.drop 2).take 1 = [e]) (hc : (cs.drop 3).take m = c) : cs = a :: b :: e :: c := by
  match cs, h with
  | x :: y :: z :: l, h =>
    simp at ha hb he hc h
    subst ha; subst hb; subst he
    rw [← hc, List.take_of_length_le (by omega)]
  | [], h => simp at h; omega
  | [x], h => simp at h; omega
  | [x, y], h => simp at h; omega
theorem rng_of5 {H : Type} {enc : TypeId × Value → H} {W : World} {fuel : Nat} {cs : List Value} {d : DataW H} {p : List MemPlace}
    (h : DataW.trod enc Tryd.prog W 0 (fun _ => true) true fuel 26 cs = some (d, p)) : ∃ r : HG.G, cs = fG r := by
  obtain ⟨xs, n, _, hx, hcl, hxl, hfi⟩ := DataW.trod_struct Tryd.underlying26 h
  rw [cRngH] at hcl
  have g : ∀ (i : Nat), i < 4 → ∃ x, xs[i]? = some x := fun i hi => ⟨xs[i]'(by rw [hxl]; exact hi), List.getElem?_eq_getElem _⟩
  obtain ⟨x0, e0⟩ := g 0 (by omega)
  obtain ⟨x1, e1⟩ := g 1 (by omega)
  obtain ⟨x2, e2⟩ := g 2 (by omega)
  obtain ⟨x3, e3⟩ := g 3 (by omega)
  have f0 := hfi 0 _ rfl
  have f1 := hfi 1 _ rfl
  have f2 := hfi 2 _ rfl
  have f3 := hfi 3 _ rfl
  rw [e0] at f0
  rw [e1] at f1
  rw [e2] at f2
  rw [e3] at f3
  obtain ⟨d0, p0⟩ := x0
  obtain ⟨d1, p1⟩ := x1
  obtain ⟨d2, p2⟩ := x2
  obtain ⟨d3, p3⟩ := x3
  have f0' : DataW.trod enc Tryd.prog W 0 (fun _ => true) true n 3 ((cs.drop 0).take 1) = some (d0, p0) := f0
  have f1' : DataW.trod enc Tryd.prog W 0 (fun _ => true) true n 3 ((cs.drop 1).take 1) = some (d1, p1) := f1
  have f2' : DataW.trod enc Tryd.prog W 0 (fun _ => true) true n 3 ((cs.drop 2).take 1) = some (d2, p2) := f2
  have f3' : DataW.trod enc Tryd.prog W 0 (fun _ => true) true n 24 ((cs.drop 3).take 32) = some (d3, p3) := f3
  obtain ⟨z0, u0, _, _⟩ := DataW.trod_int Tryd.underlying3 f0'
  obtain ⟨z1, u1, _, _⟩ := DataW.trod_int Tryd.underlying3 f1'
  obtain ⟨z2, u2, _, _⟩ := DataW.trod_int Tryd.underlying3 f2'
  obtain ⟨sa, s1, s2⟩ := dig_of f3'
  exact ⟨⟨z0, z1, z2, sa, s1⟩, cut4 cs 32 hcl u0 u1 u2 s2⟩
/-- A RECORD, A RANGE, RECORDS THAT CAME IN -/
theorem open_rec {H : Type} {enc : TypeId × Value → H} {W : World} {base : Nat} {v : Value} {d : DataW H} {p : List MemPlace}
    (hok : Value.okWide Tryd.prog W .any base 48 v) (h : DataW.Trod enc Tryd.prog W 0 (fun _ => true) true 48 v d p) : ∃ r : HG.R, v = .agg (fR r).toArray := by
  obtain ⟨fuel, hf⟩ := h
  obtain ⟨r, h2, _⟩ := rec_of hf
  refine ⟨r, ?_⟩
  have hlen : v.cells.size = 65 := by rw [← Array.length_toList, h2, fR_len]
  obtain ⟨cs, rfl⟩ : ∃ cs, v = .agg cs := by
    cases v <;> simp [Value.cells] at hlen
    exact ⟨_, rfl⟩
  congr 1
  apply Array.toList_inj.1
  exact h2
theorem open_rng {H : Type} {enc : TypeId × Value → H} {W : World} {base : Nat} {v : Value} {d : DataW H} {p : List MemPlace}
    (hok : Value.okWide Tryd.prog W .any base 26 v) (h : DataW.Trod enc Tryd.prog W 0 (fun _ => true) true 26 v d p) : ∃ r : HG.G, v = .agg (fG r).toArray := by
  obtain ⟨fuel, hf⟩ := h
  obtain ⟨r, h2⟩ := rng_of5 hf
  refine ⟨r, ?_⟩
  have hlen : v.cells.size = 35 := by rw [← Array.length_toList, h2, fG_len]
  obtain ⟨cs, rfl⟩ : ∃ cs, v = .agg cs := by
    cases v <;> simp [Value.cells] at hlen
    exact ⟨_, rfl⟩
  congr 1
  apply Array.toList_inj.1
  exact h2
theorem open_recs {H : Type} {enc : TypeId × Value → H} {W : World} {base : Nat} {v : Value} {d : DataW H} {p : List MemPlace}
    (hok : Value.okWide Tryd.prog W .any base 22 v) (h : DataW.Trod enc Tryd.prog W 0 (fun _ => true) true 22 v d p) : ∃ l : List HG.R, SL W v l := by
  obtain ⟨a0, len0, cap0, rfl⟩ := okWide_slice Tryd.underlying22 hok
  obtain ⟨fuel, hf0⟩ := h
  have hf : DataW.trod enc Tryd.prog W 0 (fun _ => true) true fuel 22 [.slice a0 len0 cap0] = some (d, p) := by simpa [Value.cells] using hf0
  obtain ⟨a, c, l, h1, h2, _, _, h3⟩ := open_rows lyR (fun _ => True) undRs cRecH (fun n cs d p h => rec_of h) hf
  exact ⟨l, a, c, h1, h2, h3⟩
end Go.Proofs.YtfbjakhanjbaeaaDoor
