/- What recipe.readAction answers. -/
import Derived.Test.YthpdmeoljdmncaaL9
import Derived.Deep.WholeRow
import Derived.Laws.CopyOwn
namespace Go.Proofs.Ythpdmeoljdmncaa
open Go.RowKit
set_option linter.unusedVariables false

theorem results2_rowR {P : Program} {fn : Func} {p q : Tmp} {ty : TypeId} (h : fn.results = #[.cell p ty, .tmp q]) (tmps : Array Value) (w : World) (g : Nat) (t : TypeId) (cs : Array Value) (fr : Nat × Nat) (d : TypeDesc)
    (hp : tmps.getD p undef = .pointer (some ⟨g, 0, none⟩)) (hg : w.heap[g]? = some (.cells cs t fr))
    (hu : P.underlying ty = some d) (hd : (match d with | .struct _ | .array _ _ => true | _ => false) = true) (hi : (P.info? ty).map (·.size) = some cs.size) :
    (results fn tmps).run P w = .ok (.tuple #[.agg cs, tmps.getD q undef]) w := by
  have hp' : tmps[p]?.getD undef = .pointer (some ⟨g, 0, none⟩) := by simpa using hp
  simp [results, h, hp', asAddr, run_loadVar_row w g t ty cs fr d hg hu hd hi]
/-- no action -/
def zAc : Array Value := #[.string ⟨#[]⟩, .slice none 0 0, .string ⟨#[]⟩]
theorem infoAc3 : (Try.prog.info? 41).map (·.size) = some 3 := by kernel_rfl

theorem ownsRow_set {B n k g : Nat} {e : TypeId} {v : Value} {xs : List Value} {w : World} (h : w.ownsRow B e k v n xs) (hg : g < B) (cs : Array Value) : (w.setRow g cs).ownsRow B e k v n xs := by
  obtain ⟨h0, h1 | ⟨g', cap, cur, h1, h2, h3, h4⟩⟩ := h
  · exact ⟨h0, Or.inl h1⟩
  · refine ⟨h0, Or.inr ⟨g', cap, cur, h1, h2, ?_, h4⟩⟩
    show (w.heap.modify g _)[g']? = _
    rw [Array.getElem?_modify, if_neg (by omega)]; exact h3
theorem ownsRow_base {B B' n k : Nat} {e : TypeId} {v : Value} {xs : List Value} {w : World} (h : w.ownsRow B e k v n xs) (hB : B' ≤ B) : w.ownsRow B' e k v n xs := by
  obtain ⟨h0, h1 | ⟨g', cap, cur, h1, h2, h3⟩⟩ := h
  · exact ⟨h0, Or.inl h1⟩
  · exact ⟨h0, Or.inr ⟨g', cap, cur, h1, by omega, h3⟩⟩
theorem Bl.setRow {w0 w : World} (h : Bl w0 w) {g : Nat} (hg : w0.heap.size ≤ g) (cs : Array Value) : Bl w0 (w.setRow g cs) := below_setRow h hg cs

/-- what is known where an action's words are read -/
structure RA (w W : World) (x : List UInt8) (m : List (List UInt8)) (z : List UInt8) (b off c : Nat) : Prop where
  hb : b < W.heap.size
  h0 : W.cell? ⟨b, off, none⟩ = some (.string (M.bs x))
  h1 : W.cell? ⟨b, off + (m.length + 1), none⟩ = some (.string (M.bs RC.wBy))
  h2 : W.cell? ⟨b, off + (m.length + 2), none⟩ = some (.string (M.bs z))
  hm : ∀ i t, m[i]? = some t → W.cell? ⟨b, off + 1 + i, none⟩ = some (.string (M.bs t))
  hc : m.length + 3 ≤ c
  hx : x.length ≤ 100000
  hz : z.length ≤ 100000
  hl : ∀ t ∈ m, t.length ≤ 100000
  hn : m.length ≤ 90000
  nm : RC.isNm x = true
  bl : Bl w W
end Go.Proofs.Ythpdmeoljdmncaa
