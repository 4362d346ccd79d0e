/- Numbers that came in, opened. -/
import Derived.Test.YtlkllcnnnndllaaGreatDoorGH
import Derived.Test.YtlkllcnnnndllaaGreatDoorLaid
import Derived.SliceStrings
namespace Go.Proofs.YtlkllcnnnndllaaGreatDoor
open Go.ChangeShapes Go.WideShapes Go.ChangeAt Go.RowKit
set_option linter.unusedVariables false

theorem list_ofI {α : Type} {P : Nat → α → Prop} : ∀ n : Nat, (∀ i, i < n → ∃ d, P i d) → ∃ l : List α, l.length = n ∧ ∀ i d, l[i]? = some d → P i d
  | 0, _ => ⟨[], rfl, fun i d h => by simp at h⟩
  | n + 1, h => by
    obtain ⟨l, hl, hp⟩ := list_ofI n (fun i hi => h i (by omega))
    obtain ⟨d, hd⟩ := h n (by omega)
    refine ⟨l ++ [d], by simp [hl], fun i x hx => ?_⟩
    by_cases hi : i < n
    · rw [List.getElem?_append_left (by omega)] at hx; exact hp i x hx
    · rw [List.getElem?_append_right (by omega)] at hx
      have hin : i = n := by
        have := (List.getElem?_eq_some_iff.1 hx).1
        simp at this; omega
      subst hin
      simp [hl] at hx; subst hx; exact hd
theorem cIntI : Tryz.prog.cellsOf 3 = 1 := by kernel_rfl
/-- NUMBERS THAT CAME IN -/
theorem open_ints_c {H : Type} {enc : TypeId × Value → H} {W : World} {fuel : Nat} {v : Value} {d : DataW H} {p : List MemPlace}
    (hf : DataW.trod enc Tryz.prog W 0 (fun _ => true) true fuel 23 [v] = some (d, p)) :
    ∃ (a : Option Addr) (c : Nat) (l : List Int), v = .slice a l.length c ∧ FI W a l ∧ l.length ≤ maxLen ∧ ∀ x ∈ l, -9223372036854775808 ≤ x ∧ x ≤ 9223372036854775807 := by
  rcases DataW.trod_slice Tryz.underlying23 hf with ⟨hcs, hx⟩ | ⟨a, len, cap, elems, rest, n, _, hcs, hx, hb, hl, hm, hlen, hel, _, _⟩
  · simp only [List.cons.injEq, and_true] at hcs
    subst hcs
    exact ⟨none, 0, [], rfl, fun i d h => by simp at h, by simp, by simp⟩
  · simp only [List.cons.injEq, and_true] at hcs
    subst hcs
    have key : ∀ i, i < len → ∃ z : Int, W.cells? 0 (a.add i) 1 = some [.int .i64 z] ∧ (-9223372036854775808 ≤ z ∧ z ≤ 9223372036854775807) := fun i hi => by
      have h := hel i hi
      rw [cIntI, Nat.mul_one, List.getElem?_eq_getElem (by omega)] at h
      cases hc : W.cells? 0 (a.add i) 1 with
      | none => rw [hc] at h; simp at h
      | some cs =>
        rw [hc] at h
        simp only [Option.bind_some] at h
        obtain ⟨x, hx⟩ : ∃ x, elems[i] = x := ⟨_, rfl⟩
        rw [hx] at h
        obtain ⟨d, p⟩ := x
        obtain ⟨z, z1, z2, z3⟩ := DataW.trod_int Tryz.underlying3 h
        exact ⟨z, by rw [z1], by have := wf_i64 z3; omega⟩
    obtain ⟨l, hll, hlp⟩ := list_ofI len key
    have hcell : ∀ i x, l[i]? = some x → W.cell? (a.add i) = some (.int .i64 x) := fun i x hx => by
      obtain ⟨h1, h2⟩ := hlp i x hx
      obtain ⟨_, hcl, hce⟩ := World.cells?_some h1
      have h0 := hce 0 (by omega)
      simpa [Addr.add] using h0
    refine ⟨some a, cap, l, by rw [hll], fun i x hx => ?_, by rw [hll]; omega, fun x hx => ?_⟩
    · have h0 := hcell i x hx
      have hi : i < l.length := (List.getElem?_eq_some_iff.1 hx).1
      have h00 := hcell 0 _ (List.getElem?_eq_getElem (by omega : 0 < l.length))
      have hspot : a.spot = none := by simpa [Addr.add] using World.cell?_spot h00
      obtain ⟨b, off, spot⟩ := a
      subst hspot
      have h0' : W.cell? ⟨b, off + i, none⟩ = some (.int .i64 x) := by rw [add_plain] at h0; exact h0
      exact ⟨b, off, rfl, block_lt h0', h0'⟩
    · obtain ⟨i, hi⟩ := List.mem_iff_getElem?.1 hx
      exact (hlp i x hi).2
set_option maxRecDepth 20000 in
theorem open_ints {H : Type} {enc : TypeId × Value → H} {W : World} {base : Nat} {v : Value} {d : DataW H} {p : List MemPlace}
    (hok : Value.okWide Tryz.prog W .any base 23 v) (h : DataW.Trod enc Tryz.prog W 0 (fun _ => true) true 23 v d p) :
    ∃ (a : Option Addr) (c : Nat) (l : List Int), v = .slice a l.length c ∧ FI W a l ∧ l.length ≤ maxLen ∧ ∀ x ∈ l, -9223372036854775808 ≤ x ∧ x ≤ 9223372036854775807 := by
  obtain ⟨a, len, cap, rfl⟩ := okWide_slice Tryz.underlying23 hok
  obtain ⟨fuel, hf⟩ := h
  exact open_ints_c (fuel := fuel) (by simpa [Value.cells] using hf)

end Go.Proofs.YtlkllcnnnndllaaGreatDoor
