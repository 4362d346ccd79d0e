/- How texts that came in are opened: as the row of their bytes. -/
import Derived.Test.YtfbjakhanjbaeaaDoorW9
import Derived.Test.YtfbjakhanjbaeaaDoorRows
import Derived.ProofKit
import Derived.OpenShut
import Derived.SliceStrings
namespace Go.Proofs.YtfbjakhanjbaeaaDoor
open Go.ChangeShapes Go.WideShapes Go.ChangeAt Go.RowKit
set_option linter.unusedVariables false

theorem block_lt {w : World} {b o : Nat} {v : Value} (h : w.cell? ⟨b, o, none⟩ = some v) : b < w.heap.size := by
  rcases Nat.lt_or_ge b w.heap.size with h' | h'
  · exact h'
  · unfold World.cell? at h
    rw [Array.getElem?_eq_none h'] at h
    simp at h

theorem cellsString : Tryd.prog.cellsOf 9 = 1 := by kernel_rfl

/-- a text's and a row's bulk -/
def total (l : List (List UInt8)) : Nat := (l.map (fun t => t.length + 1)).sum
theorem bulk_strs {H : Type} (ss : List ByteArray) : Rows.uptoBulkAll (H := H) (strs ss) = total (ss.map (fun s => s.data.toList)) := by
  induction ss with
  | nil => rfl
  | cons s ss ih =>
    have e : strs (H := H) (s :: ss) = .lit (.string s.data.toList) :: strs ss := rfl
    rw [e]
    simp only [Rows.uptoBulkAll, Rows.uptoBulk, ih, total, List.map_cons, List.sum_cons]

theorem open_texts_c {H : Type} {enc : TypeId × Value → H} {W : World} {fuel : Nat} {v : Value} {d : DataW H} {p : List MemPlace}
    (hf : DataW.trod enc Tryd.prog W 0 (fun _ => true) true fuel 55 [v] = some (d, p)) :
    ∃ (a : Option Addr) (c : Nat) (l : List (List UInt8)), v = .slice a l.length c ∧ Strs W.heap.size W v l ∧ l.length ≤ maxLen ∧ (∀ t ∈ l, t.length ≤ maxLen) ∧ total l ≤ Rows.uptoBulk d := by
  rcases open_strings Tryd.underlying55 Tryd.underlying9 cellsString hf with ⟨hcs, hx⟩ | ⟨x, len, cap, ss, hcs, _, hl, hm, hz, hx, hcell, hws⟩
  · simp only [List.cons.injEq, and_true] at hcs
    subst hcs
    exact ⟨none, 0, [], rfl, Or.inl ⟨rfl, none, 0, rfl⟩, by simp, by simp, by simp [total]⟩
  · simp only [List.cons.injEq, and_true] at hcs
    subst hcs
    simp only [if_true] at hz
    simp only [Prod.mk.injEq] at hx
    obtain ⟨rfl, rfl⟩ := hx
    have hlen : ((ss.take len).map (fun s => s.data.toList)).length = len := by simp; omega
    refine ⟨some x, cap, (ss.take len).map (fun s => s.data.toList), by rw [hlen], ?_, by rw [hlen]; omega, ?_, ?_⟩
    · by_cases h0 : len = 0
      · subst h0
        exact Or.inl ⟨by simp, _, _, rfl⟩
      · have h00 := hcell 0 (by omega)
        obtain ⟨b, off, spot⟩ := x
        have hspot : spot = none := by simpa [Addr.add] using World.cell?_spot h00
        subst hspot
        refine Or.inr ⟨b, off, cap, by rw [hlen], ?_, ?_⟩
        · have := hcell 0 (by omega)
          rw [add_plain] at this
          exact block_lt this
        · intro i t ht
          rw [List.getElem?_map, List.getElem?_take] at ht
          by_cases hi : i < len
          · rw [if_pos hi] at ht
            have hc := hcell i (by omega)
            rw [add_plain] at hc
            have hi' : i < ss.length := by omega
            rw [List.getElem?_eq_getElem hi'] at ht
            simp only [Option.map_some, Option.some.injEq] at ht
            rw [hc, List.getD_eq_getElem?_getD, List.getElem?_eq_getElem hi', Option.getD_some, ← ht, M.bs_of]
          · rw [if_neg hi] at ht; simp at ht
    · intro t ht
      simp only [List.mem_map] at ht
      obtain ⟨s, hs, rfl⟩ := ht
      have := hws s (List.mem_of_mem_take hs)
      rw [← Lib.size_eq]; exact this
    · simp only [Rows.uptoBulk, bulk_strs]
      omega

set_option maxRecDepth 8000 in
theorem open_texts {H : Type} {enc : TypeId × Value → H} {W : World} {base : Nat} {v : Value} {d : DataW H} {p : List MemPlace}
    (hok : Value.okWide Tryd.prog W .any base 55 v) (h : DataW.Trod enc Tryd.prog W 0 (fun _ => true) true 55 v d p) :
    ∃ (a : Option Addr) (c : Nat) (l : List (List UInt8)), v = .slice a l.length c ∧ Strs W.heap.size W v l ∧ l.length ≤ maxLen ∧ (∀ t ∈ l, t.length ≤ maxLen) ∧ total l ≤ Rows.uptoBulk d := by
  obtain ⟨a, len, cap, rfl⟩ := okWide_slice Tryd.underlying55 hok
  obtain ⟨fuel, hf⟩ := h
  exact open_texts_c (fuel := fuel) (by simpa [Value.cells] using hf)

theorem strs_at {w : World} {a : Option Addr} {c : Nat} {l : List (List UInt8)} (h : Strs w.heap.size w (.slice a l.length c) l) :
    ∀ i t, l[i]? = some t → ∃ b off, a = some ⟨b, off, none⟩ ∧ b < w.heap.size ∧ w.cell? ⟨b, off + i, none⟩ = some (.string (M.bs t)) := by
  intro i t ht
  rcases h with ⟨rfl, _⟩ | ⟨b, off, cap, e, hb, hc⟩
  · simp at ht
  · simp only [Value.slice.injEq] at e
    exact ⟨b, off, e.1, hb, hc i t ht⟩
theorem wf_i64 {x : Int} (h : (Lit.int .i64 x).wf = true) : -9223372036854775808 ≤ x ∧ x < 9223372036854775808 := by
  have h' : -9223372036854775808 ≤ x ∧ x ≤ 9223372036854775807 := by simpa [Lit.wf, IntKind.min, IntKind.max, IntKind.signed, IntKind.bits] using h
  omega

end Go.Proofs.YtfbjakhanjbaeaaDoor
