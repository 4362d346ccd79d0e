/- A build that can be: its order, what its actions need, on lists. -/
import Derived.Test.YtjbffhdccgmfpaaGreatDoorTMath
namespace Go.Proofs.YtjbffhdccgmfpaaGreatDoor.TR
open RC
set_option linter.unusedVariables false

def nmAt (g : Gr) (p : Nat) : Bs := match g.2[p]? with | some t => t.1 | none => []
theorem nmAt_of {g : Gr} {p : Nat} {t : Ac} (h : g.2[p]? = some t) : nmAt g p = t.1 := by unfold nmAt; rw [h]
/-- what is done ahead of the order's place i -/
def dn (g : Gr) (i : Nat) : List Bs := g.1 ++ ((fin g).order.take i).map (nmAt g)
theorem dn_succ {g : Gr} {i p : Nat} {t : Ac} (h : (fin g).order[i]? = some p) (ht : g.2[p]? = some t) : dn g (i + 1) = dn g i ++ [t.1] := by
  unfold dn
  rw [List.take_add_one, h]
  simp [nmAt_of ht]
theorem dn_zero (g : Gr) : dn g 0 = g.1 := by simp [dn]
theorem act_inj {g : Gr} (hn : (nm g).Nodup) {p q : Nat} {a b : Ac} (ha : g.2[p]? = some a) (hb : g.2[q]? = some b) (e : a.1 = b.1) : p = q := by
  have h1 := nm_act ha
  have h2 := nm_act hb
  rw [← e] at h2
  have := getElem?_inj hn h1 h2
  omega
theorem src_act {g : Gr} (hn : (nm g).Nodup) {p : Nat} {a : Ac} (ha : g.2[p]? = some a) : a.1 ∉ g.1 := fun h => by
  obtain ⟨k, hk, e⟩ := List.getElem_of_mem h
  have h1 : (nm g)[k]? = some a.1 := by rw [nm_src hk, List.getElem?_eq_getElem hk, e]
  have := getElem?_inj hn h1 (nm_act ha)
  omega
theorem dn_not {g : Gr} (h : Good g) {i p : Nat} {t : Ac} (hi : (fin g).order[i]? = some p) (ht : g.2[p]? = some t) : t.1 ∉ dn g i := by
  unfold dn
  rw [List.mem_append, not_or]
  refine ⟨src_act h.nd ht, fun hm => ?_⟩
  obtain ⟨q, hq, e⟩ := List.mem_map.1 hm
  obtain ⟨j, hj, e2⟩ := List.getElem_of_mem hq
  have hji : j < i := by simp at hj; omega
  have hj2 : (fin g).order[j]? = some q := by
    rw [← e2, List.getElem_take]; exact List.getElem?_eq_getElem _
  have hql := h.inv.lt q (List.mem_of_getElem? hj2)
  have hqt := List.getElem?_eq_getElem hql
  rw [nmAt_of hqt] at e
  have := act_inj h.nd hqt ht e
  subst this
  have h1 := (List.getElem?_eq_some_iff.1 hj2).1
  have hjj : j = i := (List.getElem?_inj h1 h.inv.nd).1 (hj2.trans hi.symm)
  omega
theorem dn_ins {g : Gr} (h : Good g) {i p : Nat} {t : Ac} (hi : (fin g).order[i]? = some p) (ht : g.2[p]? = some t) : ∀ s ∈ t.2.1, s ∈ dn g i := by
  intro s hs
  rw [← insO_of ht] at hs
  unfold dn
  rw [List.mem_append]
  rcases h.inv.topo i p hi s hs with h1 | ⟨j, o, b, hj, ho, hb, e⟩
  · exact Or.inl h1
  · refine Or.inr (List.mem_map.2 ⟨o, ?_, by rw [nmAt_of hb, e]⟩)
    exact List.mem_of_getElem? (by rw [List.getElem?_take_of_lt hj]; exact ho)
end Go.Proofs.YtjbffhdccgmfpaaGreatDoor.TR
