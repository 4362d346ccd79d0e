/- What the reference's step answers, letter by letter (the rest). -/
import Derived.Test.YtlblbdfpcaplkaaGreatDoorV3
namespace Go.Proofs.YtlblbdfpcaplkaaGreatDoor
open Go.RowKit
set_option linter.unusedVariables false
set_option linter.unusedSimpArgs false

set_option maxRecDepth 8000 in
set_option maxHeartbeats 2000000 in
theorem rdo_c {W : World} (g cap : Nat) (st : List (List UInt8)) (a2 : Option Addr) (c2 : Nat) (ins : List (List UInt8)) (h : LS W g cap st) (hk : Q.Oks st) (hx2 : TX W a2 ins) (h4 : ins.length ≤ 4) (hil : ∀ t ∈ ins, t.length ≤ 512) :
    Calls Tryz.prog 76 #[.slice (some ⟨g, 0, none⟩) st.length cap, .string (M.bs [99]), .slice a2 ins.length c2] W fun e w' => RP (Q.act ins st [99]) (-1) W e w' := by
  have hn8 := hk.1
  have hcap := h.c
  have hB0 : Below W.heap.size W (W.alloc (.cells #[] 9)) := (Below.refl _ W).alloc (Nat.le_refl _) _
  have hsz : (M.bs [99]).size = 1 := M.bs_size _
  have hi := idx_0 [99] 99 rfl
  rcases st with _ | ⟨t, _ | ⟨u, r⟩⟩
  · have HE : Hid ((Q.act ins [] [99]).1 = 31) := by show _ = _; rfl
    have HB : Hid (Below W.heap.size W W) := Below.refl _ _
    clear h hx2 hil hB0
    generalize Q.act ins [] [99] = R at *
    go_enter Tryz.func76, Tryz.ntmps76
    go_wp2_with (first | (go_at_call 101; refine (pop_99 _).mono ?_; rintro e w' ⟨rfl, hw⟩; rw [hw]; clear hw w'))
    go_ret3
    exact RP.err HE.out (by decide) HB.out
  · have HE : Hid ((Q.act ins [t] [99]).1 = 31) := by show _ = _; rfl
    have HB : Hid (Below W.heap.size W W) := Below.refl _ _
    clear h hx2 hil hB0
    generalize Q.act ins [t] [99] = R at *
    go_enter Tryz.func76, Tryz.ntmps76
    go_wp2_with (first | (go_at_call 101; refine (pop_99 _).mono ?_; rintro e w' ⟨rfl, hw⟩; rw [hw]; clear hw w'))
    go_ret3
    exact RP.err HE.out (by decide) HB.out
  · by_cases hb2 : 512 < u.length + t.length
    · have OW0 : Hid _ := own0 W
      have kt := h.at (i := r.length + 1) (t := t) (by simp)
      have ku := h.at (i := r.length) (t := u) (by simp)
      have TXR : Hid (TX (W.alloc (.cells #[] 9)) (some ⟨g, 0, none⟩) r.reverse) := TX.belowM (TX.pre (m := [u, t]) (by have := h.t; simpa using this)) hB0
      have LR : Hid (r.reverse.length = r.length) := by show _ = _; simp
      have htl := hk.2 t (by simp)
      have hul := hk.2 u (by simp)
      have hst := M.bs_size t
      have hsu := M.bs_size u
      have hz2 : (r.length : Int) + 1 + 1 - 2 = (r.length : Int) := by omega
      simp only [List.length_cons] at hn8 hcap
      have hgb := h.b
      have HE : Hid ((Q.act ins (t :: u :: r) [99]).1 = 33) := by show _ = _; rw [show Q.act ins (t :: u :: r) [99] = Q.put r (u ++ t) by (unfold Q.act; simp [Q.fold, Q.change])]; exact put33 (by omega) (by simp; omega)
      have hap : M.bs u ++ M.bs t = M.bs (u ++ t) := bs_append u t
      have hsv := M.bs_size (u ++ t)
      have hlv : (u ++ t).length = u.length + t.length := by simp
      rw [hlv] at hsv
      clear hlv
      generalize Q.act ins (t :: u :: r) [99] = R at *
      clear h hx2
      go_enter Tryz.func76, Tryz.ntmps76
      go_wp2_with (first
        | (go_at_call 101; refine (pop_99 _).mono ?_; rintro e w' ⟨rfl, hw⟩; rw [hw]; clear hw w')
        | (at_builtin; refine wl_appB rfl _ _ rfl W.heap.size [] _ _ _ rfl OW0.out (some ⟨g, 0, none⟩) r.reverse cap r.length r.length LR.out (by simp) rfl TXR.out (by simp) (by omega) ?_; clear OW0 TXR; intro g5 c5 w5 hown5 hb5; rw [List.nil_append] at hown5; have HB5 : Hid (Below W.heap.size W w5) := hB0.trans hb5; have OW5 : Hid _ := hown5; clear hown5 hb5; have kt5 : w5.cell? ⟨g, r.length + 1, none⟩ = some (.string (M.bs t)) := (HB5.out.cell (p := ⟨g, r.length + 1, none⟩) hgb).trans kt; have ku5 : w5.cell? ⟨g, r.length, none⟩ = some (.string (M.bs u)) := (HB5.out.cell (p := ⟨g, r.length, none⟩) hgb).trans ku))
      go_ret3
      exact RP.err HE.out (by decide) HB5.out
    · have OW0 : Hid _ := own0 W
      have kt := h.at (i := r.length + 1) (t := t) (by simp)
      have ku := h.at (i := r.length) (t := u) (by simp)
      have TXR : Hid (TX (W.alloc (.cells #[] 9)) (some ⟨g, 0, none⟩) r.reverse) := TX.belowM (TX.pre (m := [u, t]) (by have := h.t; simpa using this)) hB0
      have LR : Hid (r.reverse.length = r.length) := by show _ = _; simp
      have htl := hk.2 t (by simp)
      have hul := hk.2 u (by simp)
      have hst := M.bs_size t
      have hsu := M.bs_size u
      have hz2 : (r.length : Int) + 1 + 1 - 2 = (r.length : Int) := by omega
      simp only [List.length_cons] at hn8 hcap
      have hgb := h.b
      have HE : Hid (Q.act ins (t :: u :: r) [99] = (0, (u ++ t) :: r)) := by show _ = _; rw [show Q.act ins (t :: u :: r) [99] = Q.put (r) (u ++ t) by (unfold Q.act; simp [Q.change, Q.fold, Q.double])]; exact put0 (by first | omega | (simp; omega)) (by first | omega | assumption | (simp <;> omega))
      have hap : M.bs u ++ M.bs t = M.bs (u ++ t) := bs_append u t
      have hsv := M.bs_size (u ++ t)
      have hlv : (u ++ t).length = u.length + t.length := by simp
      rw [hlv] at hsv
      clear hlv
      generalize Q.act ins (t :: u :: r) [99] = R at *
      clear h hx2
      go_enter Tryz.func76, Tryz.ntmps76
      go_wp2_with (first
        | (go_at_call 101; refine (pop_99 _).mono ?_; rintro e w' ⟨rfl, hw⟩; rw [hw]; clear hw w')
        | (at_builtin; refine wl_appB rfl _ _ rfl W.heap.size [] _ _ _ rfl OW0.out (some ⟨g, 0, none⟩) r.reverse cap r.length r.length LR.out (by simp) rfl TXR.out (by simp) (by omega) ?_; clear OW0 TXR; intro g5 c5 w5 hown5 hb5; rw [List.nil_append] at hown5; have HB5 : Hid (Below W.heap.size W w5) := hB0.trans hb5; have OW5 : Hid _ := hown5; clear hown5 hb5; have kt5 : w5.cell? ⟨g, r.length + 1, none⟩ = some (.string (M.bs t)) := (HB5.out.cell (p := ⟨g, r.length + 1, none⟩) hgb).trans kt; have ku5 : w5.cell? ⟨g, r.length, none⟩ = some (.string (M.bs u)) := (HB5.out.cell (p := ⟨g, r.length, none⟩) hgb).trans ku)
        | (at_builtin; refine wl_appB rfl _ _ rfl W.heap.size (r.reverse) _ _ _ rfl (World.ownsRow.alloc (w := w5) OW5.out _) (some ⟨w5.heap.size, 0, none⟩) [u ++ t] 1 1 (r.length + 1) rfl (by simp) rfl (tx_one _ _ _) (by have := HB5.out.size; simp; omega) (by omega) ?_; clear OW5; intro g6 c6 w6 hown hb; have OW6 : Hid _ := hown; have HB6 : Hid (Below W.heap.size W w6) := (HB5.out.alloc HB5.out.size _).trans hb; clear hown hb))
      go_ret3
      exact RP.ok HE.out (LS.of OW6.out (by simp) rfl) HB6.out
set_option maxRecDepth 8000 in
set_option maxHeartbeats 2000000 in
theorem rdo_e {W : World} (g cap : Nat) (st : List (List UInt8)) (a2 : Option Addr) (c2 : Nat) (ins : List (List UInt8)) (h : LS W g cap st) (hk : Q.Oks st) (hx2 : TX W a2 ins) (h4 : ins.length ≤ 4) (hil : ∀ t ∈ ins, t.length ≤ 512) :
    Calls Tryz.prog 76 #[.slice (some ⟨g, 0, none⟩) st.length cap, .string (M.bs [61]), .slice a2 ins.length c2] W fun e w' => RP (Q.act ins st [61]) (-1) W e w' := by
  have hn8 := hk.1
  have hcap := h.c
  have hB0 : Below W.heap.size W (W.alloc (.cells #[] 9)) := (Below.refl _ W).alloc (Nat.le_refl _) _
  have hsz : (M.bs [61]).size = 1 := M.bs_size _
  have hi := idx_0 [61] 61 rfl
  rcases st with _ | ⟨t, _ | ⟨u, r⟩⟩
  · have HE : Hid ((Q.act ins [] [61]).1 = 31) := by show _ = _; rfl
    have HB : Hid (Below W.heap.size W W) := Below.refl _ _
    clear h hx2 hil hB0
    generalize Q.act ins [] [61] = R at *
    go_enter Tryz.func76, Tryz.ntmps76
    go_wp2_with (first | (go_at_call 101; refine (pop_61 _).mono ?_; rintro e w' ⟨rfl, hw⟩; rw [hw]; clear hw w'))
    go_ret3
    exact RP.err HE.out (by decide) HB.out
  · have HE : Hid ((Q.act ins [t] [61]).1 = 31) := by show _ = _; rfl
    have HB : Hid (Below W.heap.size W W) := Below.refl _ _
    clear h hx2 hil hB0
    generalize Q.act ins [t] [61] = R at *
    go_enter Tryz.func76, Tryz.ntmps76
    go_wp2_with (first | (go_at_call 101; refine (pop_61 _).mono ?_; rintro e w' ⟨rfl, hw⟩; rw [hw]; clear hw w'))
    go_ret3
    exact RP.err HE.out (by decide) HB.out
  · by_cases hb2 : u = t
    · have OW0 : Hid _ := own0 W
      have kt := h.at (i := r.length + 1) (t := t) (by simp)
      have ku := h.at (i := r.length) (t := u) (by simp)
      have TXR : Hid (TX (W.alloc (.cells #[] 9)) (some ⟨g, 0, none⟩) r.reverse) := TX.belowM (TX.pre (m := [u, t]) (by have := h.t; simpa using this)) hB0
      have LR : Hid (r.reverse.length = r.length) := by show _ = _; simp
      have htl := hk.2 t (by simp)
      have hul := hk.2 u (by simp)
      have hst := M.bs_size t
      have hsu := M.bs_size u
      have hz2 : (r.length : Int) + 1 + 1 - 2 = (r.length : Int) := by omega
      simp only [List.length_cons] at hn8 hcap
      have hgb := h.b
      have HE : Hid (Q.act ins (t :: u :: r) [61] = (0, ([49]) :: r)) := by show _ = _; rw [show Q.act ins (t :: u :: r) [61] = Q.put (r) (Q.cmp u t) by (unfold Q.act; simp [Q.change, Q.fold, Q.double])]; rw [show Q.cmp u t = [49] by (unfold Q.cmp; rw [if_pos hb2])]; exact put0 (by first | omega | (simp; omega)) (by first | omega | assumption | (simp <;> omega))
      have hq : ((M.bs u).toList == (M.bs t).toList) = true := by rw [bs_eqM]; simpa using hb2
      generalize Q.act ins (t :: u :: r) [61] = R at *
      clear h hx2 hb2
      go_enter Tryz.func76, Tryz.ntmps76
      go_wp2_with (first
        | (go_at_call 101; refine (pop_61 _).mono ?_; rintro e w' ⟨rfl, hw⟩; rw [hw]; clear hw w')
        | (at_builtin; refine wl_appB rfl _ _ rfl W.heap.size [] _ _ _ rfl OW0.out (some ⟨g, 0, none⟩) r.reverse cap r.length r.length LR.out (by simp) rfl TXR.out (by simp) (by omega) ?_; clear OW0 TXR; intro g5 c5 w5 hown5 hb5; rw [List.nil_append] at hown5; have HB5 : Hid (Below W.heap.size W w5) := hB0.trans hb5; have OW5 : Hid _ := hown5; clear hown5 hb5; have kt5 : w5.cell? ⟨g, r.length + 1, none⟩ = some (.string (M.bs t)) := (HB5.out.cell (p := ⟨g, r.length + 1, none⟩) hgb).trans kt; have ku5 : w5.cell? ⟨g, r.length, none⟩ = some (.string (M.bs u)) := (HB5.out.cell (p := ⟨g, r.length, none⟩) hgb).trans ku)
        | (at_builtin; refine wl_appB rfl _ _ rfl W.heap.size (r.reverse) _ _ _ rfl (World.ownsRow.alloc (w := w5) OW5.out _) (some ⟨w5.heap.size, 0, none⟩) [[49]] 1 1 (r.length + 1) rfl (by simp) rfl (tx_one _ _ _) (by have := HB5.out.size; simp; omega) (by omega) ?_; clear OW5; intro g6 c6 w6 hown hb; have OW6 : Hid _ := hown; have HB6 : Hid (Below W.heap.size W w6) := (HB5.out.alloc HB5.out.size _).trans hb; clear hown hb))
      go_ret3
      exact RP.ok HE.out (LS.of OW6.out (by simp) rfl) HB6.out
    · have OW0 : Hid _ := own0 W
      have kt := h.at (i := r.length + 1) (t := t) (by simp)
      have ku := h.at (i := r.length) (t := u) (by simp)
      have TXR : Hid (TX (W.alloc (.cells #[] 9)) (some ⟨g, 0, none⟩) r.reverse) := TX.belowM (TX.pre (m := [u, t]) (by have := h.t; simpa using this)) hB0
      have LR : Hid (r.reverse.length = r.length) := by show _ = _; simp
      have htl := hk.2 t (by simp)
      have hul := hk.2 u (by simp)
      have hst := M.bs_size t
      have hsu := M.bs_size u
      have hz2 : (r.length : Int) + 1 + 1 - 2 = (r.length : Int) := by omega
      simp only [List.length_cons] at hn8 hcap
      have hgb := h.b
      have HE : Hid (Q.act ins (t :: u :: r) [61] = (0, ([]) :: r)) := by show _ = _; rw [show Q.act ins (t :: u :: r) [61] = Q.put (r) (Q.cmp u t) by (unfold Q.act; simp [Q.change, Q.fold, Q.double])]; rw [show Q.cmp u t = [] by (unfold Q.cmp; rw [if_neg hb2])]; exact put0 (by first | omega | (simp; omega)) (by first | omega | assumption | (simp <;> omega))
      have hq : ((M.bs u).toList == (M.bs t).toList) = false := by rw [bs_eqM]; simpa using hb2
      generalize Q.act ins (t :: u :: r) [61] = R at *
      clear h hx2 hb2
      go_enter Tryz.func76, Tryz.ntmps76
      go_wp2_with (first
        | (go_at_call 101; refine (pop_61 _).mono ?_; rintro e w' ⟨rfl, hw⟩; rw [hw]; clear hw w')
        | (at_builtin; refine wl_appB rfl _ _ rfl W.heap.size [] _ _ _ rfl OW0.out (some ⟨g, 0, none⟩) r.reverse cap r.length r.length LR.out (by simp) rfl TXR.out (by simp) (by omega) ?_; clear OW0 TXR; intro g5 c5 w5 hown5 hb5; rw [List.nil_append] at hown5; have HB5 : Hid (Below W.heap.size W w5) := hB0.trans hb5; have OW5 : Hid _ := hown5; clear hown5 hb5; have kt5 : w5.cell? ⟨g, r.length + 1, none⟩ = some (.string (M.bs t)) := (HB5.out.cell (p := ⟨g, r.length + 1, none⟩) hgb).trans kt; have ku5 : w5.cell? ⟨g, r.length, none⟩ = some (.string (M.bs u)) := (HB5.out.cell (p := ⟨g, r.length, none⟩) hgb).trans ku)
        | (at_builtin; refine wl_appB rfl _ _ rfl W.heap.size (r.reverse) _ _ _ rfl (World.ownsRow.alloc (w := w5) OW5.out _) (some ⟨w5.heap.size, 0, none⟩) [[]] 1 1 (r.length + 1) rfl (by simp) rfl (tx_one _ _ _) (by have := HB5.out.size; simp; omega) (by omega) ?_; clear OW5; intro g6 c6 w6 hown hb; have OW6 : Hid _ := hown; have HB6 : Hid (Below W.heap.size W w6) := (HB5.out.alloc HB5.out.size _).trans hb; clear hown hb))
      go_ret3
      exact RP.ok HE.out (LS.of OW6.out (by simp) rfl) HB6.out
set_option maxRecDepth 8000 in
set_option maxHeartbeats 2000000 in
theorem rdo_s {W : World} (g cap : Nat) (st : List (List UInt8)) (a2 : Option Addr) (c2 : Nat) (ins : List (List UInt8)) (h : LS W g cap st) (hk : Q.Oks st) (hx2 : TX W a2 ins) (h4 : ins.length ≤ 4) (hil : ∀ t ∈ ins, t.length ≤ 512) :
    Calls Tryz.prog 76 #[.slice (some ⟨g, 0, none⟩) st.length cap, .string (M.bs [115]), .slice a2 ins.length c2] W fun e w' => RP (Q.act ins st [115]) (-1) W e w' := by
  have hn8 := hk.1
  have hcap := h.c
  have hB0 : Below W.heap.size W (W.alloc (.cells #[] 9)) := (Below.refl _ W).alloc (Nat.le_refl _) _
  have hsz : (M.bs [115]).size = 1 := M.bs_size _
  have hi := idx_0 [115] 115 rfl
  rcases st with _ | ⟨t, _ | ⟨u, r⟩⟩
  · have HE : Hid ((Q.act ins [] [115]).1 = 31) := by show _ = _; rfl
    have HB : Hid (Below W.heap.size W W) := Below.refl _ _
    clear h hx2 hil hB0
    generalize Q.act ins [] [115] = R at *
    go_enter Tryz.func76, Tryz.ntmps76
    go_wp2_with (first | (go_at_call 101; refine (pop_115 _).mono ?_; rintro e w' ⟨rfl, hw⟩; rw [hw]; clear hw w'))
    go_ret3
    exact RP.err HE.out (by decide) HB.out
  · have HE : Hid ((Q.act ins [t] [115]).1 = 31) := by show _ = _; rfl
    have HB : Hid (Below W.heap.size W W) := Below.refl _ _
    clear h hx2 hil hB0
    generalize Q.act ins [t] [115] = R at *
    go_enter Tryz.func76, Tryz.ntmps76
    go_wp2_with (first | (go_at_call 101; refine (pop_115 _).mono ?_; rintro e w' ⟨rfl, hw⟩; rw [hw]; clear hw w'))
    go_ret3
    exact RP.err HE.out (by decide) HB.out
  · have OW0 : Hid _ := own0 W
    have kt := h.at (i := r.length + 1) (t := t) (by simp)
    have ku := h.at (i := r.length) (t := u) (by simp)
    have TXR : Hid (TX (W.alloc (.cells #[] 9)) (some ⟨g, 0, none⟩) r.reverse) := TX.belowM (TX.pre (m := [u, t]) (by have := h.t; simpa using this)) hB0
    have LR : Hid (r.reverse.length = r.length) := by show _ = _; simp
    have htl := hk.2 t (by simp)
    have hul := hk.2 u (by simp)
    have hst := M.bs_size t
    have hsu := M.bs_size u
    have hz2 : (r.length : Int) + 1 + 1 - 2 = (r.length : Int) := by omega
    simp only [List.length_cons] at hn8 hcap
    have hgb := h.b
    have HE : Hid (Q.act ins (t :: u :: r) [115] = (0, u :: t :: r)) := by show _ = _; rfl
    generalize Q.act ins (t :: u :: r) [115] = R at *
    clear h hx2
    go_enter Tryz.func76, Tryz.ntmps76
    go_wp2_with (first
      | (go_at_call 101; refine (pop_115 _).mono ?_; rintro e w' ⟨rfl, hw⟩; rw [hw]; clear hw w')
      | (at_builtin; refine wl_appB rfl _ _ rfl W.heap.size [] _ _ _ rfl OW0.out (some ⟨g, 0, none⟩) r.reverse cap r.length r.length LR.out (by simp) rfl TXR.out (by simp) (by omega) ?_; clear OW0 TXR; intro g5 c5 w5 hown5 hb5; rw [List.nil_append] at hown5; have HB5 : Hid (Below W.heap.size W w5) := hB0.trans hb5; have OW5 : Hid _ := hown5; clear hown5 hb5; have kt5 : w5.cell? ⟨g, r.length + 1, none⟩ = some (.string (M.bs t)) := (HB5.out.cell (p := ⟨g, r.length + 1, none⟩) hgb).trans kt; have ku5 : w5.cell? ⟨g, r.length, none⟩ = some (.string (M.bs u)) := (HB5.out.cell (p := ⟨g, r.length, none⟩) hgb).trans ku)
      | (at_builtin; refine wl_appB rfl _ _ rfl W.heap.size (r.reverse) _ _ _ rfl (World.ownsRow.alloc (w := w5) OW5.out _) (some ⟨w5.heap.size, 0, none⟩) [t] 1 1 (r.length + 1) rfl (by simp) rfl (tx_one _ _ _) (by have := HB5.out.size; simp; omega) (by omega) ?_; clear OW5; intro g6 c6 w6 hown hb; have OW6 : Hid _ := hown; have HB6 : Hid (Below W.heap.size W w6) := (HB5.out.alloc HB5.out.size _).trans hb; clear hown hb)
      | (at_builtin; refine wl_appB rfl _ _ rfl W.heap.size (r.reverse ++ [t]) _ _ _ rfl (World.ownsRow.alloc (w := w6) OW6.out _) (some ⟨w6.heap.size, 0, none⟩) [u] 1 1 (r.length + 2) rfl (by simp) rfl (tx_one _ _ _) (by have := HB6.out.size; simp; omega) (by omega) ?_; clear OW6; intro g7 c7 w7 hown hb; have OW7 : Hid _ := hown; have HB7 : Hid (Below W.heap.size W w7) := (HB6.out.alloc HB6.out.size _).trans hb; clear hown hb))
    go_ret3
    exact RP.ok HE.out (LS.of OW7.out (by simp) rfl) HB7.out
set_option maxRecDepth 8000 in
set_option maxHeartbeats 2000000 in
theorem rdo_p {W : World} (g cap : Nat) (st : List (List UInt8)) (a2 : Option Addr) (c2 : Nat) (ins : List (List UInt8)) (h : LS W g cap st) (hk : Q.Oks st) (hx2 : TX W a2 ins) (h4 : ins.length ≤ 4) (hil : ∀ t ∈ ins, t.length ≤ 512) (x : UInt8) (r : List UInt8) (hr : r.length ≤ 100) :
    Calls Tryz.prog 76 #[.slice (some ⟨g, 0, none⟩) st.length cap, .string (M.bs (112 :: x :: r)), .slice a2 ins.length c2] W fun e w' => RP (Q.act ins st (112 :: x :: r)) (-1) W e w' := by
  have hn8 := hk.1
  have hcap := h.c
  have hB0 : Below W.heap.size W (W.alloc (.cells #[] 9)) := (Below.refl _ W).alloc (Nat.le_refl _) _
  have hsz : (M.bs (112 :: x :: r)).size = (r.length + 2) := M.bs_size _
  have hi := idx_0 (112 :: x :: r) 112 rfl
  have hi1 := idx_1 (112 :: x :: r) x rfl
  have hx8 := x.toNat_lt
  by_cases hb2 : 8 ≤ st.length
  · have HE : Hid ((Q.act ins st (112 :: x :: r)).1 = 31) := by show _ = _; rw [show Q.act ins st (112 :: x :: r) = Q.put st r by (unfold Q.act; simp)]; exact put31 hb2
    have HB : Hid (Below W.heap.size W W) := Below.refl _ _
    clear h hx2 hil hB0
    generalize Q.act ins st (112 :: x :: r) = R at *
    go_enter Tryz.func76, Tryz.ntmps76
    go_wp2_with (first | (go_at_call 101; refine (pop_112 _).mono ?_; rintro e w' ⟨rfl, hw⟩; rw [hw]; clear hw w'))
    go_ret3
    exact RP.err HE.out (by decide) HB.out
  · have OW0 : Hid _ := own0 W
    have TXR : Hid (TX (W.alloc (.cells #[] 9)) (some ⟨g, 0, none⟩) st.reverse) := TX.belowM h.t hB0
    have LR : Hid (st.reverse.length = st.length) := by show _ = _; simp
    have hgb := h.b
    have HE : Hid (Q.act ins (st) (112 :: x :: r) = (0, (r) :: st)) := by show _ = _; rw [show Q.act ins (st) (112 :: x :: r) = Q.put (st) (r) by (unfold Q.act; simp [Q.change, Q.fold, Q.double])]; exact put0 (by first | omega | (simp; omega)) (by first | omega | assumption | (simp <;> omega))
    have hsr := M.bs_size r
    have hex : (M.bs (112 :: x :: r)).extract 2 (r.length + 2) = M.bs r := by
      have := drop_bs (112 :: x :: r) 2
      rw [hsz] at this
      exact this
    generalize Q.act ins (st) (112 :: x :: r) = R at *
    clear h hx2
    generalize M.bs (112 :: x :: r) = bsx at *
    go_enter Tryz.func76, Tryz.ntmps76
    go_wp2_with (first
      | (go_at_call 101; refine (pop_112 _).mono ?_; rintro e w' ⟨rfl, hw⟩; rw [hw]; clear hw w')
      | (at_builtin; refine wl_appB rfl _ _ rfl W.heap.size [] _ _ _ rfl OW0.out (some ⟨g, 0, none⟩) st.reverse cap st.length st.length LR.out (by simp) rfl TXR.out (by simp) (by omega) ?_; clear OW0 TXR; intro g5 c5 w5 hown5 hb5; rw [List.nil_append] at hown5; have HB5 : Hid (Below W.heap.size W w5) := hB0.trans hb5; have OW5 : Hid _ := hown5; clear hown5 hb5)
      | (at_builtin; refine wl_appB rfl _ _ rfl W.heap.size (st.reverse) _ _ _ rfl (World.ownsRow.alloc (w := w5) OW5.out _) (some ⟨w5.heap.size, 0, none⟩) [r] 1 1 (st.length + 1) rfl (by simp) rfl (tx_one _ _ _) (by have := HB5.out.size; simp; omega) (by omega) ?_; clear OW5; intro g6 c6 w6 hown hb; have OW6 : Hid _ := hown; have HB6 : Hid (Below W.heap.size W w6) := (HB5.out.alloc HB5.out.size _).trans hb; clear hown hb))
    go_ret3
    exact RP.ok HE.out (LS.of OW6.out (by simp) rfl) HB6.out
set_option maxRecDepth 8000 in
set_option maxHeartbeats 2000000 in
theorem rdo_g {W : World} (g cap : Nat) (st : List (List UInt8)) (a2 : Option Addr) (c2 : Nat) (ins : List (List UInt8)) (h : LS W g cap st) (hk : Q.Oks st) (hx2 : TX W a2 ins) (h4 : ins.length ≤ 4) (hil : ∀ t ∈ ins, t.length ≤ 512) (x : UInt8) :
    Calls Tryz.prog 76 #[.slice (some ⟨g, 0, none⟩) st.length cap, .string (M.bs [103, x]), .slice a2 ins.length c2] W fun e w' => RP (Q.act ins st [103, x]) ((x.toNat : Int)) W e w' := by
  have hn8 := hk.1
  have hcap := h.c
  have hB0 : Below W.heap.size W (W.alloc (.cells #[] 9)) := (Below.refl _ W).alloc (Nat.le_refl _) _
  have hsz : (M.bs [103, x]).size = 2 := M.bs_size _
  have hi := idx_0 [103, x] 103 rfl
  have hi1 := idx_1 [103, x] x rfl
  have hx8 := x.toNat_lt
  have OW0 : Hid _ := own0 W
  have TXR : Hid (TX (W.alloc (.cells #[] 9)) (some ⟨g, 0, none⟩) st.reverse) := TX.belowM h.t hB0
  have LR : Hid (st.reverse.length = st.length) := by show _ = _; simp
  have hgb := h.b
  have HE : Hid (Q.act ins (st) [103, x] = (0, st)) := by show _ = _; rfl
  generalize Q.act ins (st) [103, x] = R at *
  clear h hx2
  go_enter Tryz.func76, Tryz.ntmps76
  go_wp2_with (first
    | (go_at_call 101; refine (pop_103 _).mono ?_; rintro e w' ⟨rfl, hw⟩; rw [hw]; clear hw w')
    | (at_builtin; refine wl_appB rfl _ _ rfl W.heap.size [] _ _ _ rfl OW0.out (some ⟨g, 0, none⟩) st.reverse cap st.length st.length LR.out (by simp) rfl TXR.out (by simp) (by omega) ?_; clear OW0 TXR; intro g5 c5 w5 hown5 hb5; rw [List.nil_append] at hown5; have HB5 : Hid (Below W.heap.size W w5) := hB0.trans hb5; have OW5 : Hid _ := hown5; clear hown5 hb5))
  go_ret3
  exact RP.ok HE.out (LS.of OW5.out rfl rfl) HB5.out
set_option maxRecDepth 8000 in
set_option maxHeartbeats 2000000 in
theorem rdo_i {W : World} (g cap : Nat) (st : List (List UInt8)) (a2 : Option Addr) (c2 : Nat) (ins : List (List UInt8)) (h : LS W g cap st) (hk : Q.Oks st) (hx2 : TX W a2 ins) (h4 : ins.length ≤ 4) (hil : ∀ t ∈ ins, t.length ≤ 512) (x : UInt8) :
    Calls Tryz.prog 76 #[.slice (some ⟨g, 0, none⟩) st.length cap, .string (M.bs [105, x]), .slice a2 ins.length c2] W fun e w' => RP (Q.act ins st [105, x]) (-1) W e w' := by
  have hn8 := hk.1
  have hcap := h.c
  have hB0 : Below W.heap.size W (W.alloc (.cells #[] 9)) := (Below.refl _ W).alloc (Nat.le_refl _) _
  have hsz : (M.bs [105, x]).size = 2 := M.bs_size _
  have hi := idx_0 [105, x] 105 rfl
  have hi1 := idx_1 [105, x] x rfl
  have hx8 := x.toNat_lt
  by_cases hb2 : ins.length ≤ x.toNat
  · have HE : Hid ((Q.act ins st [105, x]).1 = 32) := by show _ = _; unfold Q.act; simp [hb2]
    have HB : Hid (Below W.heap.size W W) := Below.refl _ _
    have q1 : (ins.length : Int) ≤ (x.toNat : Int) := by omega
    clear h hx2 hil hB0
    generalize Q.act ins st [105, x] = R at *
    go_enter Tryz.func76, Tryz.ntmps76
    go_wp2_with fail
    go_ret3
    exact RP.err HE.out (by decide) HB.out
  · by_cases hb2 : 8 ≤ st.length
    · have q1 : ¬ (ins.length : Int) ≤ (x.toNat : Int) := by omega
      have HE : Hid ((Q.act ins st [105, x]).1 = 31) := by show _ = _; rw [show Q.act ins st [105, x] = Q.put st (ins.getD x.toNat []) by (unfold Q.act; simp; intro q; omega)]; exact put31 (by assumption)
      have HB : Hid (Below W.heap.size W W) := Below.refl _ _
      clear h hx2 hil hB0
      generalize Q.act ins st [105, x] = R at *
      go_enter Tryz.func76, Tryz.ntmps76
      go_wp2_with (first | (go_at_call 101; refine (pop_105 _).mono ?_; rintro e w' ⟨rfl, hw⟩; rw [hw]; clear hw w'))
      go_ret3
      exact RP.err HE.out (by decide) HB.out
    · have q1 : ¬ (ins.length : Int) ≤ (x.toNat : Int) := by omega
      obtain ⟨y, hy⟩ : ∃ y, ins[x.toNat]? = some y := ⟨ins[x.toNat]'(by omega), List.getElem?_eq_getElem (by omega)⟩
      have hyl := hil y (List.mem_of_getElem? hy)
      have hsy := M.bs_size y
      have hgy : ins.getD x.toNat [] = y := by rw [List.getD_eq_getElem?_getD, hy]; rfl
      obtain ⟨sb, off, rfl, hsb, hyc⟩ := hx2 x.toNat y hy
      have OW0 : Hid _ := own0 W
      have TXR : Hid (TX (W.alloc (.cells #[] 9)) (some ⟨g, 0, none⟩) st.reverse) := TX.belowM h.t hB0
      have LR : Hid (st.reverse.length = st.length) := by show _ = _; simp
      have hgb := h.b
      have HE : Hid (Q.act ins (st) [105, x] = (0, (y) :: st)) := by show _ = _; rw [show Q.act ins st [105, x] = Q.put st (ins.getD x.toNat []) by (unfold Q.act; simp; intro q; omega), hgy]; exact put0 (by omega) hyl
      generalize Q.act ins (st) [105, x] = R at *
      clear h hx2 hy hgy
      go_enter Tryz.func76, Tryz.ntmps76
      go_wp2_with (first
        | (go_at_call 101; refine (pop_105 _).mono ?_; rintro e w' ⟨rfl, hw⟩; rw [hw]; clear hw w')
        | (at_builtin; refine wl_appB rfl _ _ rfl W.heap.size [] _ _ _ rfl OW0.out (some ⟨g, 0, none⟩) st.reverse cap st.length st.length LR.out (by simp) rfl TXR.out (by simp) (by omega) ?_; clear OW0 TXR; intro g5 c5 w5 hown5 hb5; rw [List.nil_append] at hown5; have HB5 : Hid (Below W.heap.size W w5) := hB0.trans hb5; have OW5 : Hid _ := hown5; have ky5 : w5.cell? ⟨sb, off + x.toNat, none⟩ = some (.string (M.bs y)) := (HB5.out.cell (p := ⟨sb, off + x.toNat, none⟩) hsb).trans hyc; clear hown5 hb5)
        | (at_builtin; refine wl_appB rfl _ _ rfl W.heap.size (st.reverse) _ _ _ rfl (World.ownsRow.alloc (w := w5) OW5.out _) (some ⟨w5.heap.size, 0, none⟩) [y] 1 1 (st.length + 1) rfl (by simp) rfl (tx_one _ _ _) (by have := HB5.out.size; simp; omega) (by omega) ?_; clear OW5; intro g6 c6 w6 hown hb; have OW6 : Hid _ := hown; have HB6 : Hid (Below W.heap.size W w6) := (HB5.out.alloc HB5.out.size _).trans hb; clear hown hb))
      go_ret3
      exact RP.ok HE.out (LS.of OW6.out (by simp) rfl) HB6.out
set_option maxRecDepth 8000 in
set_option maxHeartbeats 2000000 in
theorem rdo_r {W : World} (g cap : Nat) (st : List (List UInt8)) (a2 : Option Addr) (c2 : Nat) (ins : List (List UInt8)) (h : LS W g cap st) (hk : Q.Oks st) (hx2 : TX W a2 ins) (h4 : ins.length ≤ 4) (hil : ∀ t ∈ ins, t.length ≤ 512) :
    Calls Tryz.prog 76 #[.slice (some ⟨g, 0, none⟩) st.length cap, .string (M.bs [114]), .slice a2 ins.length c2] W fun e w' => RP (Q.act ins st [114]) (-1) W e w' := by
  have hn8 := hk.1
  have hcap := h.c
  have hB0 : Below W.heap.size W (W.alloc (.cells #[] 9)) := (Below.refl _ W).alloc (Nat.le_refl _) _
  have hsz : (M.bs [114]).size = 1 := M.bs_size _
  have hi := idx_0 [114] 114 rfl
  rcases st with _ | ⟨t, r⟩
  · have HE : Hid ((Q.act ins [] [114]).1 = 31) := by show _ = _; rfl
    have HB : Hid (Below W.heap.size W W) := Below.refl _ _
    clear h hx2 hil hB0
    generalize Q.act ins [] [114] = R at *
    go_enter Tryz.func76, Tryz.ntmps76
    go_wp2_with (first | (go_at_call 101; refine (pop_114 _).mono ?_; rintro e w' ⟨rfl, hw⟩; rw [hw]; clear hw w'))
    go_ret3
    exact RP.err HE.out (by decide) HB.out
  · have OW0 : Hid _ := own0 W
    have kt := h.at (i := r.length) (t := t) (by simp)
    have TXR : Hid (TX (W.alloc (.cells #[] 9)) (some ⟨g, 0, none⟩) r.reverse) := TX.belowM (TX.pre (m := [t]) (by have := h.t; simpa using this)) hB0
    have LR : Hid (r.reverse.length = r.length) := by show _ = _; simp
    have htl := hk.2 t (by simp)
    have hst := M.bs_size t
    simp only [List.length_cons] at hn8 hcap
    have hgb := h.b
    have HE : Hid (Q.act ins (t :: r) [114] = (0, t.reverse :: r)) := by show _ = _; rw [show Q.act ins (t :: r) [114] = Q.put r t.reverse by (unfold Q.act; simp [Q.change])]; exact put0 (by omega) (by rw [List.length_reverse]; omega)
    have HR0 : Hid (M.bs (t.take 0).reverse = ⟨#[]⟩) := by show _ = _; simp; rfl
    have HRA : Hid (M.bs (t.take t.length).reverse = M.bs t.reverse) := by show _ = _; rw [List.take_of_length_le (Nat.le_refl _)]
    generalize Q.act ins (t :: r) [114] = R at *
    clear h hx2
    go_enter Tryz.func76, Tryz.ntmps76
    go_wp2_with (first
      | (go_at_call 101; refine (pop_114 _).mono ?_; rintro e w' ⟨rfl, hw⟩; rw [hw]; clear hw w')
      | (at_builtin; refine wl_appB rfl _ _ rfl W.heap.size [] _ _ _ rfl OW0.out (some ⟨g, 0, none⟩) r.reverse cap r.length r.length LR.out (by simp) rfl TXR.out (by simp) (by omega) ?_; clear OW0 TXR; intro g5 c5 w5 hown5 hb5; rw [List.nil_append] at hown5; have HB5 : Hid (Below W.heap.size W w5) := hB0.trans hb5; have OW5 : Hid _ := hown5; clear hown5 hb5; have kt5 : w5.cell? ⟨g, r.length, none⟩ = some (.string (M.bs t)) := (HB5.out.cell (p := ⟨g, r.length, none⟩) hgb).trans kt))
    go_loopw [17, 18] (fun u17 u18 wr => ∃ k : Nat, k ≤ t.length ∧ u17 = .string (M.bs (t.take k).reverse) ∧ u18 = .int .i64 (k : Int) ∧ w5 = wr) (fun _ u18 _ => t.length - (intOf u18).toNat)
    case atStart => exact ⟨0, Nat.zero_le _, by rw [HR0.out], rfl, rfl⟩
    case round =>
      obtain ⟨k, hkl, rfl, rfl, rfl⟩ := hrel
      by_cases hlt : k < t.length
      · obtain ⟨x, hx⟩ : ∃ x, t[k]? = some x := ⟨t[k], List.getElem?_eq_getElem hlt⟩
        have hcut := cut_one t k x hx
        have hrs : M.bs [x] ++ M.bs (t.take k).reverse = M.bs (t.take (k + 1)).reverse := by rw [rev_succ t k x hx]; exact bs_append _ _
        have s1 : (M.bs [x]).size = 1 := M.bs_size _
        have s2 : (M.bs (t.take k).reverse).size = k := by rw [M.bs_size]; simp; omega
        have i1 : (k : Int) < (t.length : Int) := by omega
        clear hx HR0 HRA
        generalize M.bs (t.take k).reverse = P at *
        go_wp2_with fail
        go_roundw
        case rel => exact ⟨k + 1, by omega, by rfl, by go_num, by first | exact trivial | rfl⟩
        case measure => simp [intOf]; omega
      · obtain rfl : k = t.length := by omega
        rw [HRA.out]
        have hsv := M.bs_size t.reverse
        rw [List.length_reverse] at hsv
        clear HRA HR0 hkl hlt
        generalize t.reverse = tr at *
        go_wp2_with (first | (at_builtin; refine wl_appB rfl _ _ rfl W.heap.size (r.reverse) _ _ _ rfl (World.ownsRow.alloc (w := w5) OW5.out _) (some ⟨w5.heap.size, 0, none⟩) [tr] 1 1 (r.length + 1) rfl (by simp) rfl (tx_one _ _ _) (by have := HB5.out.size; simp; omega) (by omega) ?_; clear OW5; intro g6 c6 w6 hown hb; have OW6 : Hid _ := hown; have HB6 : Hid (Below W.heap.size W w6) := (HB5.out.alloc HB5.out.size _).trans hb; clear hown hb))
        go_ret3
        exact RP.ok HE.out (LS.of OW6.out (by simp) rfl) HB6.out
end Go.Proofs.YtlblbdfpcaplkaaGreatDoor
