/- What a shelf's calls on its slots do. -/
import Derived.Test.YtgnajmiccbcacaaDoorH1
namespace Go.Proofs.YtgnajmiccbcacaaDoor
open Go.RowKit
set_option linter.unusedVariables false

theorem modify_set {α : Type} (l : List α) (i : Nat) (s : α) (g : α → α) (h : l[i]? = some s) : l.modify i g = l.set i (g s) := by
  induction l generalizing i with
  | nil => simp at h
  | cons x r ih =>
    cases i with
    | zero => simp at h; subst h; rfl
    | succ i => simp at h; simp [ih i h]
section
variable {w W : World} {b c : Nat} {st : H.Sh} {s : H.Sl} {i : Nat}
theorem SW.t0 (h : SW w b c st W) (hs : st.sl[i]? = some s) : W.cell? ⟨c, i * 3, none⟩ = some (.string (M.bs s.text)) := by rw [cell_row h.hc]; exact (H.slC_at _ i s hs).1
theorem SW.t1 (h : SW w b c st W) (hs : st.sl[i]? = some s) : W.cell? ⟨c, i * 3 + 1, none⟩ = some (.string (M.bs s.sure)) := by rw [cell_row h.hc]; exact (H.slC_at _ i s hs).2.1
theorem SW.t2 (h : SW w b c st W) (hs : st.sl[i]? = some s) : W.cell? ⟨c, i * 3 + 2, none⟩ = some (.bool s.un) := by rw [cell_row h.hc]; exact (H.slC_at _ i s hs).2.2
end

/-- a slot's three cells, written anew -/
theorem SW.three {w W : World} {b c : Nat} {st : H.Sh} {s : H.Sl} {i : Nat} (h : SW w b c st W) (hs : st.sl[i]? = some s) (t u : List UInt8) (v : Bool) :
    SW w b c { st with sl := st.sl.set i ⟨t, u, v⟩ } (((W.setCell ⟨c, i * 3, none⟩ (.string (M.bs t))).setCell ⟨c, i * 3 + 1, none⟩ (.string (M.bs u))).setCell ⟨c, i * 3 + 2, none⟩ (.bool v)) := by
  have hi : i < st.sl.length := (List.getElem?_eq_some_iff.1 hs).1
  have h1 := SW.slot h (st.sl.set i { s with text := t }) (i * 3) (.string (M.bs t)) ((H.slC_set _ i s hs).1 t) (by simp)
  have g1 : (st.sl.set i { s with text := t })[i]? = some { s with text := t } := by simp [hi]
  have h2 := SW.slot h1 _ (i * 3 + 1) (.string (M.bs u)) ((H.slC_set _ i _ g1).2.1 u) (by simp)
  have g2 : ((st.sl.set i { s with text := t }).set i { ({ s with text := t } : H.Sl) with sure := u })[i]? = some { ({ s with text := t } : H.Sl) with sure := u } := by simp [hi]
  have h3 := SW.slot h2 _ (i * 3 + 2) (.bool v) ((H.slC_set _ i _ g2).2.2 v) (by simp)
  simpa using h3
/-- a slot's text and its mark, written anew -/
theorem SW.two {w W : World} {b c : Nat} {st : H.Sh} {s : H.Sl} {i : Nat} (h : SW w b c st W) (hs : st.sl[i]? = some s) (t : List UInt8) :
    SW w b c (H.put st i t) ((W.setCell ⟨c, i * 3, none⟩ (.string (M.bs t))).setCell ⟨c, i * 3 + 2, none⟩ (.bool true)) := by
  have hi : i < st.sl.length := (List.getElem?_eq_some_iff.1 hs).1
  have h1 := SW.slot h (st.sl.set i { s with text := t }) (i * 3) (.string (M.bs t)) ((H.slC_set _ i s hs).1 t) (by simp)
  have g1 : (st.sl.set i { s with text := t })[i]? = some { s with text := t } := by simp [hi]
  have h2 := SW.slot h1 _ (i * 3 + 2) (.bool true) ((H.slC_set _ i _ g1).2.2 true) (by simp)
  unfold H.put
  rw [modify_set _ _ s _ hs]
  simpa using h2

set_option maxHeartbeats 1000000 in
theorem settle_at {w W : World} {b c : Nat} {st : H.Sh} {s : H.Sl} {i : Nat} (h : SW w b c st W) (hs : st.sl[i]? = some s) (t : List UInt8) :
    Calls Tryd.prog 41 #[.pointer (some ⟨c, i * 3, none⟩), .string (M.bs t)] W fun e w' => e = .returned (.tuple #[]) ∧ SW w b c { st with sl := st.sl.set i (H.settle t) } w' := by
  have k0 := h.t0 hs
  have k1 := h.t1 hs
  have k2 := h.t2 hs
  have f := h.fc
  have HH : Hid (SW w b c { st with sl := st.sl.set i (H.settle t) } (((W.setCell ⟨c, i * 3, none⟩ (.string (M.bs t))).setCell ⟨c, i * 3 + 1, none⟩ (.string (M.bs t))).setCell ⟨c, i * 3 + 2, none⟩ (.bool false))) := h.three hs t t false
  clear h hs
  go_enter Tryd.func41, Tryd.ntmps41
  go_wp2_with fail
  refine bodyPost_end (results_none rfl _ _ _) rfl ?_
  exact ⟨rfl, HH.out⟩

theorem remainder_at (n m : Int) (h1 : -9223372036854775808 ≤ n) (h2 : n ≤ 9223372036854775807) (h3 : 0 < m) (h4 : m ≤ 9223372036854775807) (W : World) :
    Calls Tryd.prog 59 #[.int .i64 n, .int .i64 m] W fun e w' => e = .returned (.int .i64 (H.rem n m)) ∧ w' = W := by
  have b1 : -m < n.tmod m := by have := Int.lt_tmod_of_pos n h3; omega
  have b2 : n.tmod m < m := Int.tmod_lt_of_pos n h3
  have q : (m == 0) = false := by simp; omega
  unfold H.rem
  by_cases hr : n.tmod m < 0
  · rw [if_pos hr]
    go_enter Tryd.func59, Tryd.ntmps59
    go_wp2_with fail
    go_ret
    exact ⟨rfl, rfl⟩
  · rw [if_neg hr]
    go_enter Tryd.func59, Tryd.ntmps59
    go_wp2_with fail
    go_ret
    exact ⟨rfl, rfl⟩
end Go.Proofs.YtgnajmiccbcacaaDoor
