/- What recipe.readInputs and recipe.readAction answer. -/
import Derived.Test.YthpdmeoljdmncaaL8
namespace Go.Proofs.Ythpdmeoljdmncaa
open Go.RowKit
set_option linter.unusedVariables false

/-- texts as a slice: where they lie, and room -/
structure SX2 (W : World) (a : Option Addr) (n c : Nat) (l : List (List UInt8)) : Prop where
  v : Strs W.heap.size W (.slice a n c) l
  c : n ≤ c
theorem SX2.bl {W W' : World} {a : Option Addr} {n c : Nat} {l : List (List UInt8)} (h : SX2 W a n c l) (hb : Bl W W') : SX2 W' a n c l := ⟨h.v.bl hb, h.c⟩
theorem cloneS (b off c : Nat) (r : List (List UInt8)) {w W : World} (HB : Bl w W) (hr : ∀ i t, r[i]? = some t → W.cell? ⟨b, off + i, none⟩ = some (.string (M.bs t))) (hn : r.length ≤ 100000) :
    Calls Try.prog 56 #[.slice (some ⟨b, off, none⟩) r.length c] W fun e w' => ∃ a' c', e = .returned (.slice a' r.length c') ∧ w'.ownsRow W.heap.size 9 1 (.slice a' r.length c') r.length (r.map encS) ∧ Bl w w' := by
  refine (Try.slices_Clone_string b off r.length c (r.map M.bs) W (by simp) (by omega) (fun j hj => ?_)).mono ?_
  · simp only [List.length_map] at hj
    rw [hr j r[j] (List.getElem?_eq_getElem hj)]
    simp [List.getD_eq_getElem?_getD, List.getElem?_eq_getElem hj]
  · rintro e w' ⟨v', rfl, h1, _, h2⟩
    have h3 : w'.ownsRow W.heap.size 9 1 v' r.length (r.map encS) := by
      have e : (List.take r.length (r.map M.bs)).map Value.string = r.map encS := by
        rw [List.take_of_length_le (by simp), List.map_map]; rfl
      rw [e] at h1; exact h1
    obtain ⟨a', c', rfl, _, hs⟩ := Strs.ofOwns h3
    exact ⟨a', c', rfl, h3, HB.step h2⟩
theorem readIns_cons (f : List UInt8) (r : List (List UInt8)) : RC.readIns (f :: r) = if f = RC.wFrom ∧ r ≠ [] ∧ r.length ≤ 4 ∧ r.all RC.isNm = true then some r else none := rfl
theorem bs_eqW (a b : List UInt8) : ((M.bs a).toList == b) = decide (a = b) := by
  rw [Lib.toList_data, M.bs_toList]
  by_cases h : a = b
  · subst h; simp
  · simp [h]

end Go.Proofs.Ythpdmeoljdmncaa
