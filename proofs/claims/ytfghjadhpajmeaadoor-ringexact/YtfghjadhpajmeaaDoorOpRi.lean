/- Numbers and flags that came in, opened. -/
import Derived.Test.YtfghjadhpajmeaaDoorRiB
import Derived.Test.YtfghjadhpajmeaaDoorRows
import Derived.ProofKit
import Derived.OpenShut
import Derived.SliceStrings
namespace Go.Proofs.YtfghjadhpajmeaaDoor
open Go.ChangeShapes Go.WideShapes Go.ChangeAt Go.RowKit
set_option linter.unusedVariables false

theorem list_ofG {α : Type} {P : Nat → α → Prop} : ∀ n : Nat, (∀ i, i < n → ∃ d, P i d) → ∃ l : List α, l.length = n ∧ ∀ i d, l[i]? = some d → P i d
  | 0, _ => ⟨[], rfl, fun i d h => by simp at h⟩
  | n + 1, h => by
    obtain ⟨l, hl, hp⟩ := list_ofG n (fun i hi => h i (by omega))
    obtain ⟨d, hd⟩ := h n (by omega)
    refine ⟨l ++ [d], by simp [hl], fun i x hx => ?_⟩
    by_cases hi : i < n
    · rw [List.getElem?_append_left (by omega)] at hx; exact hp i x hx
    · rw [List.getElem?_append_right (by omega)] at hx
      have hin : i = n := by
        have := (List.getElem?_eq_some_iff.1 hx).1
        simp at this; omega
      subst hin
      simp [hl] at hx; subst hx; exact hd
theorem open_rows {α : Type} (E : Lay α) (ok : α → Prop) {T TS : TypeId} (hund : Tryd.prog.underlying TS = some (.slice T)) (hc : Tryd.prog.cellsOf T = E.k) {H : Type} {enc : TypeId × Value → H} {W : World}
    (one : ∀ (n : Nat) (cs : List Value) (d : DataW H) (p : List MemPlace), DataW.trod enc Tryd.prog W 0 (fun _ => true) true n T cs = some (d, p) → ∃ x, cs = E.f x ∧ ok x) {fuel : Nat} {v : Value} {d : DataW H} {p : List MemPlace}
    (hf : DataW.trod enc Tryd.prog W 0 (fun _ => true) true fuel TS [v] = some (d, p)) :
    ∃ (a : Option Addr) (c : Nat) (l : List α), v = .slice a l.length c ∧ RS E W a l ∧ l.length ≤ maxLen ∧ ∀ t ∈ l, ok t := by
  have hk := E.pos
  rcases DataW.trod_slice hund hf with ⟨hcs, hx⟩ | ⟨a, len, cap, elems, rest, n, _, hcs, hx, hb, hl, hm, hlen, hel, _, _⟩
  · simp only [List.cons.injEq, and_true] at hcs
    subst hcs
    exact ⟨none, 0, [], rfl, fun i d h => by simp at h, by simp, fun t ht => by simp at ht⟩
  · simp only [List.cons.injEq, and_true] at hcs
    subst hcs
    have key : ∀ i, i < len → ∃ y : α, W.cells? 0 (a.add (i * E.k)) E.k = some (E.f y) ∧ ok y := fun i hi => by
      have h := hel i hi
      rw [hc, List.getElem?_eq_getElem (by omega)] at h
      cases hcc : W.cells? 0 (a.add (i * E.k)) E.k with
      | none => rw [hcc] at h; simp at h
      | some cs =>
        rw [hcc] at h
        simp only [Option.bind_some] at h
        obtain ⟨x, hx⟩ : ∃ x, elems[i] = x := ⟨_, rfl⟩
        rw [hx] at h
        obtain ⟨d, p⟩ := x
        obtain ⟨t, y1, y2⟩ := one _ _ _ _ h
        exact ⟨t, by rw [y1], y2⟩
    obtain ⟨l, hll, hlp⟩ := list_ofG len key
    refine ⟨some a, cap, l, by simp [hll], fun i t hi => ?_, by omega, fun t ht => ?_⟩
    · obtain ⟨h1, h2⟩ := hlp i t hi
      have hspot : a.spot = none := by
        have hil : i < l.length := (List.getElem?_eq_some_iff.1 hi).1
        obtain ⟨g1, g2⟩ := hlp 0 _ (List.getElem?_eq_getElem (by omega : 0 < l.length))
        obtain ⟨_, _, gce⟩ := World.cells?_some g1
        have g0 := gce 0 (by omega)
        rw [List.getElem?_eq_getElem (by rw [E.len]; omega)] at g0
        have := World.cell?_spot g0
        simpa [Addr.add] using this
      obtain ⟨_, hcl, hce⟩ := World.cells?_some h1
      obtain ⟨b, off, spot⟩ := a
      subst hspot
      have c0 := hce 0 (by omega)
      rw [Addr.add_mid, Addr.add_mid, List.getElem?_eq_getElem (by rw [E.len]; omega)] at c0
      refine ⟨b, off, rfl, block_lt c0, fun j v hv => ?_⟩
      have hj : j < E.k := by have := (List.getElem?_eq_some_iff.1 hv).1; rw [E.len] at this; exact this
      have := hce j hj
      rw [Addr.add_mid, Addr.add_mid, hv] at this
      exact this
    · obtain ⟨i, hi, rfl⟩ := List.getElem_of_mem ht
      exact (hlp i _ (List.getElem?_eq_getElem hi)).2
theorem cIn : Tryd.prog.cellsOf 3 = 1 := by kernel_rfl
set_option maxRecDepth 100000 in
/-- NUMBERS THAT CAME IN -/
theorem open_ints {H : Type} {enc : TypeId × Value → H} {W : World} {base : Nat} {v : Value} {d : DataW H} {p : List MemPlace}
    (hok : Value.okWide Tryd.prog W .any base 24 v) (h : DataW.Trod enc Tryd.prog W 0 (fun _ => true) true 24 v d p) :
    ∃ (a : Option Addr) (c : Nat) (l : List Int), v = .slice a l.length c ∧ RS lyI W a l ∧ l.length ≤ maxLen ∧ ∀ t ∈ l, i64 t := by
  obtain ⟨a0, len0, cap0, rfl⟩ := okWide_slice Tryd.underlying24 hok
  obtain ⟨fuel, hf0⟩ := h
  have hf : DataW.trod enc Tryd.prog W 0 (fun _ => true) true fuel 24 [.slice a0 len0 cap0] = some (d, p) := by simpa [Value.cells] using hf0
  exact open_rows lyI i64 Tryd.underlying24 cIn (fun n cs d p h => by
    obtain ⟨z, z1, z2, z3⟩ := DataW.trod_int Tryd.underlying3 h
    have hz := wf_i64 z3; exact ⟨z, z1, ⟨hz.1, by omega⟩⟩) hf
set_option maxRecDepth 8000 in
theorem open_arrI {H : Type} {enc : TypeId × Value → H} {W : World} {base : Nat} {v : Value} {d : DataW H} {p : List MemPlace} {n : Nat} {t e : TypeId} (ht : Tryd.prog.underlying t = some (.array n e)) (he : Tryd.prog.underlying e = some (.int .i64)) (h1 : Tryd.prog.cellsOf e = 1) (hn : Tryd.prog.cellsOf t = n) (h0 : n ≠ 1)
    (hok : Value.okWide Tryd.prog W .any base t v) (h : DataW.Trod enc Tryd.prog W 0 (fun _ => true) true t v d p) : ∃ zs : List Int, zs.length = n ∧ v = .agg (zs.map (Value.int .i64)).toArray ∧ ∀ z ∈ zs, -9223372036854775808 ≤ z ∧ z ≤ 9223372036854775807 := by
  obtain ⟨fuel, hf⟩ := h
  obtain ⟨zs, hz0, hz1, hz2, hp, hw⟩ := open_arr ht he h1 hn hf
  have hlen : v.cells.size = n := by rw [← Array.length_toList, hz1, List.length_map, hz0]
  have hv : ∃ cs, v = .agg cs := by
    cases v <;> simp [Value.cells] at hlen <;> first | exact ⟨_, rfl⟩ | exact absurd hlen.symm h0 | exact absurd hlen h0
  obtain ⟨cs, rfl⟩ := hv
  refine ⟨zs, hz0, ?_, fun z hz => by have := wf_i64 (hw z hz); omega⟩
  have : cs.toList = zs.map (Value.int .i64) := by simpa [Value.cells] using hz1
  rw [← this]
theorem trod_boolG {H : Type} {enc : TypeId × Value → H} {W : World} {base : Nat} {spare : Nat → Bool} {held : Bool} {fuel : Nat} {t : TypeId} {cs : List Value} {d : DataW H} {p : List MemPlace} (ht : Tryd.prog.underlying t = some .bool) (h : DataW.trod enc Tryd.prog W base spare held fuel t cs = some (d, p)) : ∃ b : Bool, cs = [.bool b] := by
  obtain ⟨b', h1, _⟩ := DataW.trod_bool ht h
  exact ⟨b', h1⟩
set_option maxRecDepth 8000 in
theorem open_bools {H : Type} {enc : TypeId × Value → H} {W : World} {base : Nat} {v : Value} {d : DataW H} {p : List MemPlace} {n : Nat} {t e : TypeId} (ht : Tryd.prog.underlying t = some (.array n e)) (he : Tryd.prog.underlying e = some .bool) (h1 : Tryd.prog.cellsOf e = 1) (hn : Tryd.prog.cellsOf t = n) (h0 : n ≠ 1)
    (hok : Value.okWide Tryd.prog W .any base t v) (h : DataW.Trod enc Tryd.prog W 0 (fun _ => true) true t v d p) : ∃ zs : List Bool, zs.length = n ∧ v = .agg (zs.map Value.bool).toArray := by
  obtain ⟨fuel, hf⟩ := h
  obtain ⟨xs, m, _, hx, hlen, hxn, hel⟩ := DataW.trod_array ht hf
  rw [hn] at hlen
  have key : ∀ i, i < n → ∃ z, v.cells.toList[i]? = some (.bool z) := fun i hi => by
    have hi' := hel i hi
    rw [h1, Nat.mul_one] at hi'
    have hxi : xs[i]? = some xs[i] := List.getElem?_eq_getElem (by omega)
    rw [hxi] at hi'
    obtain ⟨z, e1⟩ := trod_boolG he hi'
    refine ⟨z, ?_⟩
    have : ((v.cells.toList.drop i).take 1)[0]? = some (.bool z) := by rw [e1]; rfl
    simpa [List.getElem?_take, List.getElem?_drop] using this
  have hv : ∃ cs, v = .agg cs := by
    cases v <;> simp [Value.cells] at hlen <;> first | exact ⟨_, rfl⟩ | exact absurd hlen.symm h0 | exact absurd hlen h0
  obtain ⟨cs, rfl⟩ := hv
  have hcl : (Value.agg cs).cells = cs := rfl
  rw [hcl] at hlen key
  obtain ⟨zs, z1, z2⟩ := list_ofG n key
  refine ⟨zs, z1, ?_⟩
  have : cs.toList = zs.map Value.bool := by
    apply List.ext_getElem?
    intro i
    by_cases hi : i < n
    · have hzi : zs[i]? = some zs[i] := List.getElem?_eq_getElem (by omega)
      rw [z2 i _ hzi, List.getElem?_map, hzi]; rfl
    · rw [List.getElem?_eq_none (by omega), List.getElem?_eq_none (by simp; omega)]
  rw [← this]
end Go.Proofs.YtfghjadhpajmeaaDoor
