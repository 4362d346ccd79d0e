/- The stack's swap. -/
import Derived.Test.YtodcafmhaleemaaDoorT2
import Derived.BigRegion
namespace Go.Proofs.YtodcafmhaleemaaDoor
open Go.RowKit
set_option linter.unusedVariables false

/-- a stack with two at its top -/
theorem SX.cons2 {w W : World} {b : Nat} {r : List Value} {v : Value} {t u : List UInt8} {st : List (List UInt8)} (h : SX w b r (t :: u :: st) v W) :
    ∃ g cap, v = .slice (some ⟨g, 0, none⟩) (st.length + 2) cap ∧ b < g ∧ W.cell? ⟨g, st.length + 1, none⟩ = some (.string (M.bs t)) ∧ W.cell? ⟨g, st.length, none⟩ = some (.string (M.bs u)) ∧ (∀ i, W.frozen? ⟨g, i, none⟩ = false) ∧
      ((W.setCell ⟨g, st.length, none⟩ (.string (M.bs t))).setCell ⟨g, st.length + 1, none⟩ (.string (M.bs u))).ownsRow (b + 1) 9 1 v (st.length + 2) ((u :: t :: st).reverse.map encS) := by
  obtain ⟨h0, ⟨_, h2⟩ | ⟨g, cap, cur, h1, h2, h3, h4, h5, h6, h7⟩⟩ := h.own
  · simp at h2
  · have hc : cur.size = cap := by omega
    simp only [List.length_cons] at h4
    have e : cur.toList.take (st.length + 2) = st.reverse.map encS ++ [encS u, encS t] := by
      have := h7; simp only [Nat.mul_one, List.length_cons, List.reverse_cons, List.map_append, List.map_cons, List.map_nil, List.append_assoc, List.cons_append, List.nil_append] at this; exact this
    have at' : ∀ i, i < st.length + 2 → cur[i]? = (st.reverse.map encS ++ [encS u, encS t])[i]? := fun i hi => by
      have := congrArg (fun l => l[i]?) e
      simp only [List.getElem?_take, if_pos hi] at this
      simpa using this
    have eu : cur[st.length]? = some (encS u) := by rw [at' _ (by omega), List.getElem?_append_right (by simp)]; simp
    have et : cur[st.length + 1]? = some (encS t) := by rw [at' _ (by omega), List.getElem?_append_right (by simp)]; simp
    refine ⟨g, cap, h1, by omega, ?_, ?_, frozen_rowM h3, ⟨by simp, .inr ⟨g, cap, (cur.setIfInBounds st.length (encS t)).setIfInBounds (st.length + 1) (encS u), h1, h2, ?_, by omega, h5, by simpa using h6, ?_⟩⟩⟩
    · simp only [World.cell?, h3]; simpa [encS] using et
    · simp only [World.cell?, h3]; simpa [encS] using eu
    · exact heap_setCell_rowM (heap_setCell_rowM h3)
    · apply List.ext_getElem?
      intro i
      by_cases hi : i < st.length + 2
      · rw [List.getElem?_take, if_pos (by omega), Array.getElem?_toList, Array.getElem?_setIfInBounds, Array.getElem?_setIfInBounds]
        simp only [Array.size_setIfInBounds]
        have er : (u :: t :: st).reverse.map encS = st.reverse.map encS ++ [encS t, encS u] := by simp
        rw [er]
        rcases (by omega : i < st.length ∨ i = st.length ∨ i = st.length + 1) with hi' | hi' | hi'
        · rw [if_neg (by omega), if_neg (by omega), at' i hi, List.getElem?_append_left (by simpa using hi'), List.getElem?_append_left (by simpa using hi')]
        · subst hi'
          rw [if_neg (by omega), if_pos rfl, if_pos (by omega), List.getElem?_append_right (by simp)]; simp
        · subst hi'
          rw [if_pos rfl, if_pos (by omega), List.getElem?_append_right (by simp)]; simp
      · rw [List.getElem?_eq_none (by rw [List.length_take, Array.length_toList]; simp; omega), List.getElem?_eq_none (by simp; omega)]

set_option maxRecDepth 8000 in
set_option maxHeartbeats 4000000 in
theorem swap_at {w W : World} {b : Nat} {r : List Value} {v : Value} {st : List (List UInt8)} (h : SX w b r st v W) :
    Calls Tryd.prog 42 #[.pointer (some ⟨b, 0, none⟩)] W fun e w' => e = .returned (.int .i64 ((Q.swap st).1 : Int)) ∧ ∃ v', SX w b r (Q.swap st).2 v' w' := by
  rcases st with _ | ⟨t, _ | ⟨u, st⟩⟩
  · obtain ⟨a, c, rfl⟩ := h.shape
    have k0 := h.c0
    simp only [List.length_nil] at k0
    have HH : Hid (SX w b r [] (.slice a 0 c) W) := h
    clear h
    unfold Q.swap
    go_enter Tryd.func42, Tryd.ntmps42
    go_wp2_with fail
    go_ret
    exact ⟨rfl, _, HH.out⟩
  · obtain ⟨a, c, rfl⟩ := h.shape
    have k0 := h.c0
    simp only [List.length_cons, List.length_nil] at k0
    have HH : Hid (SX w b r [t] (.slice a 1 c) W) := h
    clear h
    unfold Q.swap
    go_enter Tryd.func42, Tryd.ntmps42
    go_wp2_with fail
    go_ret
    exact ⟨rfl, _, HH.out⟩
  · obtain ⟨g, cap, rfl, hg, kt, ku, fg, hown⟩ := h.cons2
    have k0 := h.c0
    have hn := h.ok.1
    simp only [List.length_cons] at hn
    have HS : Hid (SX w b r (u :: t :: st) (.slice (some ⟨g, 0, none⟩) (st.length + 2) cap) ((W.setCell ⟨g, st.length, none⟩ (.string (M.bs t))).setCell ⟨g, st.length + 1, none⟩ (.string (M.bs u)))) := by
      have h1 := h.hb
      have h2 := h.z
      have hb2 : Below g W ((W.setCell ⟨g, st.length, none⟩ (.string (M.bs t))).setCell ⟨g, st.length + 1, none⟩ (.string (M.bs u))) := ((Below.refl g W).setCell (Nat.le_refl _) _).setCell (Nat.le_refl _) _
      exact ⟨by rw [hb2.block b hg]; exact h.row, hown, ⟨h.g.g.below hb2 (by omega), h.g.b.trans (hb2.mono (by omega))⟩, h1, h2, Q.swap_ok h.ok⟩
    have HD : Hid (∀ W', SX w b r (u :: t :: st) (.slice (some ⟨g, 0, none⟩) (st.length + 2) cap) W' → SX w b r (u :: t :: st) (.slice (some ⟨g, 0, none⟩) (st.length + 2) cap) W'.drew) := fun W' h => h.drew
    clear h hown
    unfold Q.swap
    generalize st.length = k at *
    have hw1 : IntKind.i64.wrap (k : Int) = (k : Int) := by simp only [IntKind.wrap, IntKind.bits, IntKind.signed]; simp; omega
    have hw2 : IntKind.i64.wrap ((k : Int) + 1) = (k : Int) + 1 := by simp only [IntKind.wrap, IntKind.bits, IntKind.signed]; simp; omega
    have i0 : (0 : Int) ≤ (k : Int) := by omega
    have i1 : (k : Int) < (k : Int) + 2 := by omega
    have i2 : (k : Int) + 1 < (k : Int) + 2 := by omega
    have i3 : (0 : Int) ≤ (k : Int) + 1 := by omega
    go_enter Tryd.func42, Tryd.ntmps42
    go_wp2_with fail
    go_region
    all_goals go_wp2_with fail
    all_goals go_ret
    all_goals exact ⟨rfl, _, HS.out.drew⟩
end Go.Proofs.YtodcafmhaleemaaDoor
