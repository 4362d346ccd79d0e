/- What the reference's step answers, letter by letter. -/
import Derived.Test.YtlblbdfpcaplkaaGreatDoorV3
namespace Go.Proofs.YtlblbdfpcaplkaaGreatDoor
open Go.RowKit
set_option linter.unusedVariables false
set_option linter.unusedSimpArgs false

set_option maxRecDepth 8000 in
set_option maxHeartbeats 2000000 in
theorem rdo_x {W : World} (g cap : Nat) (st : List (List UInt8)) (a2 : Option Addr) (c2 : Nat) (ins : List (List UInt8)) (h : LS W g cap st) (hk : Q.Oks st) (hx2 : TX W a2 ins) (h4 : ins.length ≤ 4) (hil : ∀ t ∈ ins, t.length ≤ 512) :
    Calls Tryz.prog 76 #[.slice (some ⟨g, 0, none⟩) st.length cap, .string (M.bs [120]), .slice a2 ins.length c2] W fun e w' => RP (Q.act ins st [120]) (-1) W e w' := by
  have hn8 := hk.1
  have hcap := h.c
  have hB0 : Below W.heap.size W (W.alloc (.cells #[] 9)) := (Below.refl _ W).alloc (Nat.le_refl _) _
  have hsz : (M.bs [120]).size = 1 := M.bs_size _
  have hi := idx_0 [120] 120 rfl
  rcases st with _ | ⟨t, r⟩
  · have HE : Hid ((Q.act ins [] [120]).1 = 31) := by show _ = _; rfl
    have HB : Hid (Below W.heap.size W W) := Below.refl _ _
    clear h hx2 hil hB0
    generalize Q.act ins [] [120] = R at *
    go_enter Tryz.func76, Tryz.ntmps76
    go_wp2_with (first | (go_at_call 101; refine (pop_120 _).mono ?_; rintro e w' ⟨rfl, hw⟩; rw [hw]; clear hw w'))
    go_ret3
    exact RP.err HE.out (by decide) HB.out
  · have OW0 : Hid _ := own0 W
    have kt := h.at (i := r.length) (t := t) (by simp)
    have TXR : Hid (TX (W.alloc (.cells #[] 9)) (some ⟨g, 0, none⟩) r.reverse) := TX.belowM (TX.pre (m := [t]) (by have := h.t; simpa using this)) hB0
    have LR : Hid (r.reverse.length = r.length) := by show _ = _; simp
    have htl := hk.2 t (by simp)
    have hst := M.bs_size t
    simp only [List.length_cons] at hn8 hcap
    have hgb := h.b
    have HE : Hid (Q.act ins (t :: r) [120] = (0, r)) := by show _ = _; rfl
    generalize Q.act ins (t :: r) [120] = R at *
    clear h hx2
    go_enter Tryz.func76, Tryz.ntmps76
    go_wp2_with (first
      | (go_at_call 101; refine (pop_120 _).mono ?_; rintro e w' ⟨rfl, hw⟩; rw [hw]; clear hw w')
      | (at_builtin; refine wl_appB rfl _ _ rfl W.heap.size [] _ _ _ rfl OW0.out (some ⟨g, 0, none⟩) r.reverse cap r.length r.length LR.out (by simp) rfl TXR.out (by simp) (by omega) ?_; clear OW0 TXR; intro g5 c5 w5 hown5 hb5; rw [List.nil_append] at hown5; have HB5 : Hid (Below W.heap.size W w5) := hB0.trans hb5; have OW5 : Hid _ := hown5; clear hown5 hb5; have kt5 : w5.cell? ⟨g, r.length, none⟩ = some (.string (M.bs t)) := (HB5.out.cell (p := ⟨g, r.length, none⟩) hgb).trans kt))
    go_ret3
    exact RP.ok HE.out (LS.of OW5.out rfl rfl) HB5.out
set_option maxRecDepth 8000 in
set_option maxHeartbeats 2000000 in
theorem rdo_t {W : World} (g cap : Nat) (st : List (List UInt8)) (a2 : Option Addr) (c2 : Nat) (ins : List (List UInt8)) (h : LS W g cap st) (hk : Q.Oks st) (hx2 : TX W a2 ins) (h4 : ins.length ≤ 4) (hil : ∀ t ∈ ins, t.length ≤ 512) (x : UInt8) :
    Calls Tryz.prog 76 #[.slice (some ⟨g, 0, none⟩) st.length cap, .string (M.bs [116, x]), .slice a2 ins.length c2] W fun e w' => RP (Q.act ins st [116, x]) (-1) W e w' := by
  have hn8 := hk.1
  have hcap := h.c
  have hB0 : Below W.heap.size W (W.alloc (.cells #[] 9)) := (Below.refl _ W).alloc (Nat.le_refl _) _
  have hsz : (M.bs [116, x]).size = 2 := M.bs_size _
  have hi := idx_0 [116, x] 116 rfl
  have hi1 := idx_1 [116, x] x rfl
  have hx8 := x.toNat_lt
  rcases st with _ | ⟨t, r⟩
  · have HE : Hid ((Q.act ins [] [116, x]).1 = 31) := by show _ = _; rfl
    have HB : Hid (Below W.heap.size W W) := Below.refl _ _
    clear h hx2 hil hB0
    generalize Q.act ins [] [116, x] = R at *
    go_enter Tryz.func76, Tryz.ntmps76
    go_wp2_with (first | (go_at_call 101; refine (pop_116 _).mono ?_; rintro e w' ⟨rfl, hw⟩; rw [hw]; clear hw w'))
    go_ret3
    exact RP.err HE.out (by decide) HB.out
  · by_cases hb2 : x.toNat < t.length
    · have OW0 : Hid _ := own0 W
      have kt := h.at (i := r.length) (t := t) (by simp)
      have TXR : Hid (TX (W.alloc (.cells #[] 9)) (some ⟨g, 0, none⟩) r.reverse) := TX.belowM (TX.pre (m := [t]) (by have := h.t; simpa using this)) hB0
      have LR : Hid (r.reverse.length = r.length) := by show _ = _; simp
      have htl := hk.2 t (by simp)
      have hst := M.bs_size t
      simp only [List.length_cons] at hn8 hcap
      have hgb := h.b
      have HE : Hid (Q.act ins (t :: r) [116, x] = (0, (t.take x.toNat) :: r)) := by show _ = _; rw [show Q.act ins (t :: r) [116, x] = Q.put (r) (t.take x.toNat) by (unfold Q.act; simp [Q.change, Q.fold, Q.double])]; exact put0 (by first | omega | (simp; omega)) (by first | omega | assumption | (simp <;> omega))
      have hvl : (t.take x.toNat).length ≤ 512 := by simp; omega
      have hsv := M.bs_size (t.take x.toNat)
      have htk : (M.bs t).extract 0 x.toNat = M.bs (t.take x.toNat) := by rw [cut_bs]; simp
      generalize Q.act ins (t :: r) [116, x] = R at *
      clear h hx2
      go_enter Tryz.func76, Tryz.ntmps76
      go_wp2_with (first
        | (go_at_call 101; refine (pop_116 _).mono ?_; rintro e w' ⟨rfl, hw⟩; rw [hw]; clear hw w')
        | (at_builtin; refine wl_appB rfl _ _ rfl W.heap.size [] _ _ _ rfl OW0.out (some ⟨g, 0, none⟩) r.reverse cap r.length r.length LR.out (by simp) rfl TXR.out (by simp) (by omega) ?_; clear OW0 TXR; intro g5 c5 w5 hown5 hb5; rw [List.nil_append] at hown5; have HB5 : Hid (Below W.heap.size W w5) := hB0.trans hb5; have OW5 : Hid _ := hown5; clear hown5 hb5; have kt5 : w5.cell? ⟨g, r.length, none⟩ = some (.string (M.bs t)) := (HB5.out.cell (p := ⟨g, r.length, none⟩) hgb).trans kt)
        | (at_builtin; refine wl_appB rfl _ _ rfl W.heap.size (r.reverse) _ _ _ rfl (World.ownsRow.alloc (w := w5) OW5.out _) (some ⟨w5.heap.size, 0, none⟩) [t.take x.toNat] 1 1 (r.length + 1) rfl (by simp) rfl (tx_one _ _ _) (by have := HB5.out.size; simp; omega) (by omega) ?_; clear OW5; intro g6 c6 w6 hown hb; have OW6 : Hid _ := hown; have HB6 : Hid (Below W.heap.size W w6) := (HB5.out.alloc HB5.out.size _).trans hb; clear hown hb))
      go_ret3
      exact RP.ok HE.out (LS.of OW6.out (by simp) rfl) HB6.out
    · have OW0 : Hid _ := own0 W
      have kt := h.at (i := r.length) (t := t) (by simp)
      have TXR : Hid (TX (W.alloc (.cells #[] 9)) (some ⟨g, 0, none⟩) r.reverse) := TX.belowM (TX.pre (m := [t]) (by have := h.t; simpa using this)) hB0
      have LR : Hid (r.reverse.length = r.length) := by show _ = _; simp
      have htl := hk.2 t (by simp)
      have hst := M.bs_size t
      simp only [List.length_cons] at hn8 hcap
      have hgb := h.b
      have HE : Hid (Q.act ins (t :: r) [116, x] = (0, (t) :: r)) := by show _ = _; rw [show Q.act ins (t :: r) [116, x] = Q.put (r) (t.take x.toNat) by (unfold Q.act; simp [Q.change, Q.fold, Q.double])]; rw [List.take_of_length_le (Nat.le_of_not_lt hb2)]; exact put0 (by first | omega | (simp; omega)) (by first | omega | assumption | (simp <;> omega))
      generalize Q.act ins (t :: r) [116, x] = R at *
      clear h hx2
      go_enter Tryz.func76, Tryz.ntmps76
      go_wp2_with (first
        | (go_at_call 101; refine (pop_116 _).mono ?_; rintro e w' ⟨rfl, hw⟩; rw [hw]; clear hw w')
        | (at_builtin; refine wl_appB rfl _ _ rfl W.heap.size [] _ _ _ rfl OW0.out (some ⟨g, 0, none⟩) r.reverse cap r.length r.length LR.out (by simp) rfl TXR.out (by simp) (by omega) ?_; clear OW0 TXR; intro g5 c5 w5 hown5 hb5; rw [List.nil_append] at hown5; have HB5 : Hid (Below W.heap.size W w5) := hB0.trans hb5; have OW5 : Hid _ := hown5; clear hown5 hb5; have kt5 : w5.cell? ⟨g, r.length, none⟩ = some (.string (M.bs t)) := (HB5.out.cell (p := ⟨g, r.length, none⟩) hgb).trans kt)
        | (at_builtin; refine wl_appB rfl _ _ rfl W.heap.size (r.reverse) _ _ _ rfl (World.ownsRow.alloc (w := w5) OW5.out _) (some ⟨w5.heap.size, 0, none⟩) [t] 1 1 (r.length + 1) rfl (by simp) rfl (tx_one _ _ _) (by have := HB5.out.size; simp; omega) (by omega) ?_; clear OW5; intro g6 c6 w6 hown hb; have OW6 : Hid _ := hown; have HB6 : Hid (Below W.heap.size W w6) := (HB5.out.alloc HB5.out.size _).trans hb; clear hown hb))
      go_ret3
      exact RP.ok HE.out (LS.of OW6.out (by simp) rfl) HB6.out
set_option maxRecDepth 8000 in
set_option maxHeartbeats 2000000 in
theorem rdo_k {W : World} (g cap : Nat) (st : List (List UInt8)) (a2 : Option Addr) (c2 : Nat) (ins : List (List UInt8)) (h : LS W g cap st) (hk : Q.Oks st) (hx2 : TX W a2 ins) (h4 : ins.length ≤ 4) (hil : ∀ t ∈ ins, t.length ≤ 512) (x : UInt8) :
    Calls Tryz.prog 76 #[.slice (some ⟨g, 0, none⟩) st.length cap, .string (M.bs [107, x]), .slice a2 ins.length c2] W fun e w' => RP (Q.act ins st [107, x]) (-1) W e w' := by
  have hn8 := hk.1
  have hcap := h.c
  have hB0 : Below W.heap.size W (W.alloc (.cells #[] 9)) := (Below.refl _ W).alloc (Nat.le_refl _) _
  have hsz : (M.bs [107, x]).size = 2 := M.bs_size _
  have hi := idx_0 [107, x] 107 rfl
  have hi1 := idx_1 [107, x] x rfl
  have hx8 := x.toNat_lt
  rcases st with _ | ⟨t, r⟩
  · have HE : Hid ((Q.act ins [] [107, x]).1 = 31) := by show _ = _; rfl
    have HB : Hid (Below W.heap.size W W) := Below.refl _ _
    clear h hx2 hil hB0
    generalize Q.act ins [] [107, x] = R at *
    go_enter Tryz.func76, Tryz.ntmps76
    go_wp2_with (first | (go_at_call 101; refine (pop_107 _).mono ?_; rintro e w' ⟨rfl, hw⟩; rw [hw]; clear hw w'))
    go_ret3
    exact RP.err HE.out (by decide) HB.out
  · by_cases hb2 : x.toNat < t.length
    · have OW0 : Hid _ := own0 W
      have kt := h.at (i := r.length) (t := t) (by simp)
      have TXR : Hid (TX (W.alloc (.cells #[] 9)) (some ⟨g, 0, none⟩) r.reverse) := TX.belowM (TX.pre (m := [t]) (by have := h.t; simpa using this)) hB0
      have LR : Hid (r.reverse.length = r.length) := by show _ = _; simp
      have htl := hk.2 t (by simp)
      have hst := M.bs_size t
      simp only [List.length_cons] at hn8 hcap
      have hgb := h.b
      have HE : Hid (Q.act ins (t :: r) [107, x] = (0, (t.drop x.toNat) :: r)) := by show _ = _; rw [show Q.act ins (t :: r) [107, x] = Q.put (r) (t.drop x.toNat) by (unfold Q.act; simp [Q.change, Q.fold, Q.double])]; exact put0 (by first | omega | (simp; omega)) (by first | omega | assumption | (simp <;> omega))
      have hvl : (t.drop x.toNat).length ≤ 512 := by simp; omega
      have hsv := M.bs_size (t.drop x.toNat)
      have htk : (M.bs t).extract x.toNat t.length = M.bs (t.drop x.toNat) := by have := drop_bs t x.toNat; rwa [hst] at this
      generalize Q.act ins (t :: r) [107, x] = R at *
      clear h hx2
      go_enter Tryz.func76, Tryz.ntmps76
      go_wp2_with (first
        | (go_at_call 101; refine (pop_107 _).mono ?_; rintro e w' ⟨rfl, hw⟩; rw [hw]; clear hw w')
        | (at_builtin; refine wl_appB rfl _ _ rfl W.heap.size [] _ _ _ rfl OW0.out (some ⟨g, 0, none⟩) r.reverse cap r.length r.length LR.out (by simp) rfl TXR.out (by simp) (by omega) ?_; clear OW0 TXR; intro g5 c5 w5 hown5 hb5; rw [List.nil_append] at hown5; have HB5 : Hid (Below W.heap.size W w5) := hB0.trans hb5; have OW5 : Hid _ := hown5; clear hown5 hb5; have kt5 : w5.cell? ⟨g, r.length, none⟩ = some (.string (M.bs t)) := (HB5.out.cell (p := ⟨g, r.length, none⟩) hgb).trans kt)
        | (at_builtin; refine wl_appB rfl _ _ rfl W.heap.size (r.reverse) _ _ _ rfl (World.ownsRow.alloc (w := w5) OW5.out _) (some ⟨w5.heap.size, 0, none⟩) [t.drop x.toNat] 1 1 (r.length + 1) rfl (by simp) rfl (tx_one _ _ _) (by have := HB5.out.size; simp; omega) (by omega) ?_; clear OW5; intro g6 c6 w6 hown hb; have OW6 : Hid _ := hown; have HB6 : Hid (Below W.heap.size W w6) := (HB5.out.alloc HB5.out.size _).trans hb; clear hown hb))
      go_ret3
      exact RP.ok HE.out (LS.of OW6.out (by simp) rfl) HB6.out
    · have OW0 : Hid _ := own0 W
      have kt := h.at (i := r.length) (t := t) (by simp)
      have TXR : Hid (TX (W.alloc (.cells #[] 9)) (some ⟨g, 0, none⟩) r.reverse) := TX.belowM (TX.pre (m := [t]) (by have := h.t; simpa using this)) hB0
      have LR : Hid (r.reverse.length = r.length) := by show _ = _; simp
      have htl := hk.2 t (by simp)
      have hst := M.bs_size t
      simp only [List.length_cons] at hn8 hcap
      have hgb := h.b
      have HE : Hid (Q.act ins (t :: r) [107, x] = (0, ([]) :: r)) := by show _ = _; rw [show Q.act ins (t :: r) [107, x] = Q.put (r) (t.drop x.toNat) by (unfold Q.act; simp [Q.change, Q.fold, Q.double])]; rw [List.drop_of_length_le (Nat.le_of_not_lt hb2)]; exact put0 (by first | omega | (simp; omega)) (by first | omega | assumption | (simp <;> omega))
      generalize Q.act ins (t :: r) [107, x] = R at *
      clear h hx2
      go_enter Tryz.func76, Tryz.ntmps76
      go_wp2_with (first
        | (go_at_call 101; refine (pop_107 _).mono ?_; rintro e w' ⟨rfl, hw⟩; rw [hw]; clear hw w')
        | (at_builtin; refine wl_appB rfl _ _ rfl W.heap.size [] _ _ _ rfl OW0.out (some ⟨g, 0, none⟩) r.reverse cap r.length r.length LR.out (by simp) rfl TXR.out (by simp) (by omega) ?_; clear OW0 TXR; intro g5 c5 w5 hown5 hb5; rw [List.nil_append] at hown5; have HB5 : Hid (Below W.heap.size W w5) := hB0.trans hb5; have OW5 : Hid _ := hown5; clear hown5 hb5; have kt5 : w5.cell? ⟨g, r.length, none⟩ = some (.string (M.bs t)) := (HB5.out.cell (p := ⟨g, r.length, none⟩) hgb).trans kt)
        | (at_builtin; refine wl_appB rfl _ _ rfl W.heap.size (r.reverse) _ _ _ rfl (World.ownsRow.alloc (w := w5) OW5.out _) (some ⟨w5.heap.size, 0, none⟩) [[]] 1 1 (r.length + 1) rfl (by simp) rfl (tx_one _ _ _) (by have := HB5.out.size; simp; omega) (by omega) ?_; clear OW5; intro g6 c6 w6 hown hb; have OW6 : Hid _ := hown; have HB6 : Hid (Below W.heap.size W w6) := (HB5.out.alloc HB5.out.size _).trans hb; clear hown hb))
      go_ret3
      exact RP.ok HE.out (LS.of OW6.out (by simp) rfl) HB6.out
set_option maxRecDepth 8000 in
set_option maxHeartbeats 2000000 in
theorem rdo_h {W : World} (g cap : Nat) (st : List (List UInt8)) (a2 : Option Addr) (c2 : Nat) (ins : List (List UInt8)) (h : LS W g cap st) (hk : Q.Oks st) (hx2 : TX W a2 ins) (h4 : ins.length ≤ 4) (hil : ∀ t ∈ ins, t.length ≤ 512) :
    Calls Tryz.prog 76 #[.slice (some ⟨g, 0, none⟩) st.length cap, .string (M.bs [104]), .slice a2 ins.length c2] W fun e w' => RP (Q.act ins st [104]) (-1) W e w' := by
  have hn8 := hk.1
  have hcap := h.c
  have hB0 : Below W.heap.size W (W.alloc (.cells #[] 9)) := (Below.refl _ W).alloc (Nat.le_refl _) _
  have hsz : (M.bs [104]).size = 1 := M.bs_size _
  have hi := idx_0 [104] 104 rfl
  rcases st with _ | ⟨t, r⟩
  · have HE : Hid ((Q.act ins [] [104]).1 = 31) := by show _ = _; rfl
    have HB : Hid (Below W.heap.size W W) := Below.refl _ _
    clear h hx2 hil hB0
    generalize Q.act ins [] [104] = R at *
    go_enter Tryz.func76, Tryz.ntmps76
    go_wp2_with (first | (go_at_call 101; refine (pop_104 _).mono ?_; rintro e w' ⟨rfl, hw⟩; rw [hw]; clear hw w'))
    go_ret3
    exact RP.err HE.out (by decide) HB.out
  · have OW0 : Hid _ := own0 W
    have kt := h.at (i := r.length) (t := t) (by simp)
    have TXR : Hid (TX (W.alloc (.cells #[] 9)) (some ⟨g, 0, none⟩) r.reverse) := TX.belowM (TX.pre (m := [t]) (by have := h.t; simpa using this)) hB0
    have LR : Hid (r.reverse.length = r.length) := by show _ = _; simp
    have htl := hk.2 t (by simp)
    have hst := M.bs_size t
    simp only [List.length_cons] at hn8 hcap
    have hgb := h.b
    have HE : Hid (Q.act ins (t :: r) [104] = (0, (S.sha t) :: r)) := by show _ = _; rw [show Q.act ins (t :: r) [104] = Q.put (r) (S.sha t) by (unfold Q.act; simp [Q.change, Q.fold, Q.double])]; exact put0 (by first | omega | (simp; omega)) (by first | omega | assumption | (rw [S.sha_length]; omega))
    have hvl : (S.sha t).length = 32 := S.sha_length t
    have hsv := M.bs_size (S.sha t)
    have CO : Hid (∀ W, Calls Tryz.prog 42 #[.string (M.bs t)] W fun e w' => e = .returned (.agg (dg (S.sha t))) ∧ Below W.heap.size W w') := fun W => rOf t (by omega) W
    have CB : Hid (∀ W, Calls Tryz.prog 41 #[.agg (dg (S.sha t))] W fun e w' => e = .returned (.string (M.bs (S.sha t))) ∧ Below W.heap.size W w') := fun W => rBytes_m _ (S.sha_length t) W
    generalize Q.act ins (t :: r) [104] = R at *
    clear h hx2
    generalize S.sha t = sh at *
    generalize dg sh = D at *
    go_enter Tryz.func76, Tryz.ntmps76
    go_wp2_with (first
      | (go_at_call 101; refine (pop_104 _).mono ?_; rintro e w' ⟨rfl, hw⟩; rw [hw]; clear hw w')
      | (at_builtin; refine wl_appB rfl _ _ rfl W.heap.size [] _ _ _ rfl OW0.out (some ⟨g, 0, none⟩) r.reverse cap r.length r.length LR.out (by simp) rfl TXR.out (by simp) (by omega) ?_; clear OW0 TXR; intro g5 c5 w5 hown5 hb5; rw [List.nil_append] at hown5; have HB5 : Hid (Below W.heap.size W w5) := hB0.trans hb5; have OW5 : Hid _ := hown5; clear hown5 hb5; have kt5 : w5.cell? ⟨g, r.length, none⟩ = some (.string (M.bs t)) := (HB5.out.cell (p := ⟨g, r.length, none⟩) hgb).trans kt)
      | (go_at_call 42; refine (CO.out _).mono ?_; clear CO; rintro e w7 ⟨rfl, hb⟩; have HB7 : Hid (Below W.heap.size W w7) := HB5.out.trans (hb.mono HB5.out.size); have OW7 : Hid _ := ownsRow_below OW5.out hb; clear hb OW5)
      | (go_at_call 41; refine (CB.out _).mono ?_; clear CB; rintro e w8 ⟨rfl, hb⟩; have HB8 : Hid (Below W.heap.size W w8) := HB7.out.trans (hb.mono HB7.out.size); have OW8 : Hid _ := ownsRow_below OW7.out hb; clear hb OW7)
      | (at_builtin; refine wl_appB rfl _ _ rfl W.heap.size (r.reverse) _ _ _ rfl (World.ownsRow.alloc (w := w8) OW8.out _) (some ⟨w8.heap.size, 0, none⟩) [sh] 1 1 (r.length + 1) rfl (by simp) rfl (tx_one _ _ _) (by have := HB8.out.size; simp; omega) (by omega) ?_; clear OW8; intro g6 c6 w6 hown hb; have OW6 : Hid _ := hown; have HB6 : Hid (Below W.heap.size W w6) := (HB8.out.alloc HB8.out.size _).trans hb; clear hown hb))
    go_ret3
    exact RP.ok HE.out (LS.of OW6.out (by simp) rfl) HB6.out
set_option maxRecDepth 8000 in
set_option maxHeartbeats 2000000 in
theorem rdo_l {W : World} (g cap : Nat) (st : List (List UInt8)) (a2 : Option Addr) (c2 : Nat) (ins : List (List UInt8)) (h : LS W g cap st) (hk : Q.Oks st) (hx2 : TX W a2 ins) (h4 : ins.length ≤ 4) (hil : ∀ t ∈ ins, t.length ≤ 512) :
    Calls Tryz.prog 76 #[.slice (some ⟨g, 0, none⟩) st.length cap, .string (M.bs [108]), .slice a2 ins.length c2] W fun e w' => RP (Q.act ins st [108]) (-1) W e w' := by
  have hn8 := hk.1
  have hcap := h.c
  have hB0 : Below W.heap.size W (W.alloc (.cells #[] 9)) := (Below.refl _ W).alloc (Nat.le_refl _) _
  have hsz : (M.bs [108]).size = 1 := M.bs_size _
  have hi := idx_0 [108] 108 rfl
  rcases st with _ | ⟨t, r⟩
  · have HE : Hid ((Q.act ins [] [108]).1 = 31) := by show _ = _; rfl
    have HB : Hid (Below W.heap.size W W) := Below.refl _ _
    clear h hx2 hil hB0
    generalize Q.act ins [] [108] = R at *
    go_enter Tryz.func76, Tryz.ntmps76
    go_wp2_with (first | (go_at_call 101; refine (pop_108 _).mono ?_; rintro e w' ⟨rfl, hw⟩; rw [hw]; clear hw w'))
    go_ret3
    exact RP.err HE.out (by decide) HB.out
  · have OW0 : Hid _ := own0 W
    have kt := h.at (i := r.length) (t := t) (by simp)
    have TXR : Hid (TX (W.alloc (.cells #[] 9)) (some ⟨g, 0, none⟩) r.reverse) := TX.belowM (TX.pre (m := [t]) (by have := h.t; simpa using this)) hB0
    have LR : Hid (r.reverse.length = r.length) := by show _ = _; simp
    have htl := hk.2 t (by simp)
    have hst := M.bs_size t
    simp only [List.length_cons] at hn8 hcap
    have hgb := h.b
    have HE : Hid (Q.act ins (t :: r) [108] = (0, (Q.len t) :: r)) := by show _ = _; rw [show Q.act ins (t :: r) [108] = Q.put (r) (Q.len t) by (unfold Q.act; simp [Q.change, Q.fold, Q.double])]; exact put0 (by first | omega | (simp; omega)) (by first | omega | assumption | exact len_512 t htl)
    have hvl : (Q.len t).length ≤ 512 := len_512 t htl
    have hsv := M.bs_size (Q.len t)
    have CD : Hid (∀ W, Calls Tryz.prog 102 #[.int .i64 (t.length : Int)] W fun e w' => e = .returned (.string (M.bs (Q.len t))) ∧ Below W.heap.size W w') := fun W => by
      refine (digits_m t.length htl W).mono ?_
      rintro e w' ⟨rfl, k, rfl⟩
      exact ⟨by rw [len_is], below_drewN (Below.refl _ _) k⟩
    generalize Q.act ins (t :: r) [108] = R at *
    clear h hx2
    generalize Q.len t = ln at *
    go_enter Tryz.func76, Tryz.ntmps76
    go_wp2_with (first
      | (go_at_call 101; refine (pop_108 _).mono ?_; rintro e w' ⟨rfl, hw⟩; rw [hw]; clear hw w')
      | (at_builtin; refine wl_appB rfl _ _ rfl W.heap.size [] _ _ _ rfl OW0.out (some ⟨g, 0, none⟩) r.reverse cap r.length r.length LR.out (by simp) rfl TXR.out (by simp) (by omega) ?_; clear OW0 TXR; intro g5 c5 w5 hown5 hb5; rw [List.nil_append] at hown5; have HB5 : Hid (Below W.heap.size W w5) := hB0.trans hb5; have OW5 : Hid _ := hown5; clear hown5 hb5; have kt5 : w5.cell? ⟨g, r.length, none⟩ = some (.string (M.bs t)) := (HB5.out.cell (p := ⟨g, r.length, none⟩) hgb).trans kt)
      | (go_at_call 102; refine (CD.out _).mono ?_; clear CD; rintro e w7 ⟨rfl, hb⟩; have HB7 : Hid (Below W.heap.size W w7) := HB5.out.trans (hb.mono HB5.out.size); have OW7 : Hid _ := ownsRow_below OW5.out hb; clear hb OW5)
      | (at_builtin; refine wl_appB rfl _ _ rfl W.heap.size (r.reverse) _ _ _ rfl (World.ownsRow.alloc (w := w7) OW7.out _) (some ⟨w7.heap.size, 0, none⟩) [ln] 1 1 (r.length + 1) rfl (by simp) rfl (tx_one _ _ _) (by have := HB7.out.size; simp; omega) (by omega) ?_; clear OW7; intro g6 c6 w6 hown hb; have OW6 : Hid _ := hown; have HB6 : Hid (Below W.heap.size W w6) := (HB7.out.alloc HB7.out.size _).trans hb; clear hown hb))
    go_ret3
    exact RP.ok HE.out (LS.of OW6.out (by simp) rfl) HB6.out
set_option maxRecDepth 8000 in
set_option maxHeartbeats 2000000 in
theorem rdo_d {W : World} (g cap : Nat) (st : List (List UInt8)) (a2 : Option Addr) (c2 : Nat) (ins : List (List UInt8)) (h : LS W g cap st) (hk : Q.Oks st) (hx2 : TX W a2 ins) (h4 : ins.length ≤ 4) (hil : ∀ t ∈ ins, t.length ≤ 512) :
    Calls Tryz.prog 76 #[.slice (some ⟨g, 0, none⟩) st.length cap, .string (M.bs [100]), .slice a2 ins.length c2] W fun e w' => RP (Q.act ins st [100]) (-1) W e w' := by
  have hn8 := hk.1
  have hcap := h.c
  have hB0 : Below W.heap.size W (W.alloc (.cells #[] 9)) := (Below.refl _ W).alloc (Nat.le_refl _) _
  have hsz : (M.bs [100]).size = 1 := M.bs_size _
  have hi := idx_0 [100] 100 rfl
  rcases st with _ | ⟨t, r⟩
  · have HE : Hid ((Q.act ins [] [100]).1 = 31) := by show _ = _; rfl
    have HB : Hid (Below W.heap.size W W) := Below.refl _ _
    clear h hx2 hil hB0
    generalize Q.act ins [] [100] = R at *
    go_enter Tryz.func76, Tryz.ntmps76
    go_wp2_with (first | (go_at_call 101; refine (pop_100 _).mono ?_; rintro e w' ⟨rfl, hw⟩; rw [hw]; clear hw w'))
    go_ret3
    exact RP.err HE.out (by decide) HB.out
  · by_cases hb2 : 8 ≤ r.length + 1
    · simp only [List.length_cons] at hn8
      have HE : Hid ((Q.act ins (t :: r) [100]).1 = 31) := by show _ = _; rw [show Q.act ins (t :: r) [100] = Q.put (t :: r) t by (unfold Q.act; simp [Q.double])]; exact put31 (by simpa using hb2)
      have HB : Hid (Below W.heap.size W W) := Below.refl _ _
      clear h hx2 hil hB0
      generalize Q.act ins (t :: r) [100] = R at *
      go_enter Tryz.func76, Tryz.ntmps76
      go_wp2_with (first | (go_at_call 101; refine (pop_100 _).mono ?_; rintro e w' ⟨rfl, hw⟩; rw [hw]; clear hw w'))
      go_ret3
      exact RP.err HE.out (by decide) HB.out
    · have OW0 : Hid _ := own0 W
      have kt := h.at (i := r.length) (t := t) (by simp)
      have TXR : Hid (TX (W.alloc (.cells #[] 9)) (some ⟨g, 0, none⟩) r.reverse) := TX.belowM (TX.pre (m := [t]) (by have := h.t; simpa using this)) hB0
      have LR : Hid (r.reverse.length = r.length) := by show _ = _; simp
      have htl := hk.2 t (by simp)
      have hst := M.bs_size t
      simp only [List.length_cons] at hn8 hcap
      have hgb := h.b
      have HE : Hid (Q.act ins (t :: r) [100] = (0, t :: t :: r)) := by show _ = _; rw [show Q.act ins (t :: r) [100] = Q.put (t :: r) (t) by (unfold Q.act; simp [Q.change, Q.fold, Q.double])]; exact put0 (by first | omega | (simp; omega)) (by first | omega | assumption | (simp <;> omega))
      generalize Q.act ins (t :: r) [100] = R at *
      clear h hx2
      go_enter Tryz.func76, Tryz.ntmps76
      go_wp2_with (first
        | (go_at_call 101; refine (pop_100 _).mono ?_; rintro e w' ⟨rfl, hw⟩; rw [hw]; clear hw w')
        | (at_builtin; refine wl_appB rfl _ _ rfl W.heap.size [] _ _ _ rfl OW0.out (some ⟨g, 0, none⟩) r.reverse cap r.length r.length LR.out (by simp) rfl TXR.out (by simp) (by omega) ?_; clear OW0 TXR; intro g5 c5 w5 hown5 hb5; rw [List.nil_append] at hown5; have HB5 : Hid (Below W.heap.size W w5) := hB0.trans hb5; have OW5 : Hid _ := hown5; clear hown5 hb5; have kt5 : w5.cell? ⟨g, r.length, none⟩ = some (.string (M.bs t)) := (HB5.out.cell (p := ⟨g, r.length, none⟩) hgb).trans kt)
        | (at_builtin; refine wl_appB rfl _ _ rfl W.heap.size (r.reverse) _ _ _ rfl (World.ownsRow.alloc (w := w5) OW5.out _) (some ⟨w5.heap.size, 0, none⟩) [t] 1 1 (r.length + 1) rfl (by simp) rfl (tx_one _ _ _) (by have := HB5.out.size; simp; omega) (by omega) ?_; clear OW5; intro g6 c6 w6 hown hb; have OW6 : Hid _ := hown; have HB6 : Hid (Below W.heap.size W w6) := (HB5.out.alloc HB5.out.size _).trans hb; clear hown hb)
        | (at_builtin; refine wl_appB rfl _ _ rfl W.heap.size (r.reverse ++ [t]) _ _ _ rfl (World.ownsRow.alloc (w := w6) OW6.out _) (some ⟨w6.heap.size, 0, none⟩) [t] 1 1 (r.length + 2) rfl (by simp) rfl (tx_one _ _ _) (by have := HB6.out.size; simp; omega) (by omega) ?_; clear OW6; intro g7 c7 w7 hown hb; have OW7 : Hid _ := hown; have HB7 : Hid (Below W.heap.size W w7) := (HB6.out.alloc HB6.out.size _).trans hb; clear hown hb))
      go_ret3
      exact RP.ok HE.out (LS.of OW7.out (by simp) rfl) HB7.out
set_option maxRecDepth 8000 in
set_option maxHeartbeats 2000000 in
theorem rdo_j {W : World} (g cap : Nat) (st : List (List UInt8)) (a2 : Option Addr) (c2 : Nat) (ins : List (List UInt8)) (h : LS W g cap st) (hk : Q.Oks st) (hx2 : TX W a2 ins) (h4 : ins.length ≤ 4) (hil : ∀ t ∈ ins, t.length ≤ 512) (x : UInt8) :
    Calls Tryz.prog 76 #[.slice (some ⟨g, 0, none⟩) st.length cap, .string (M.bs [106, x]), .slice a2 ins.length c2] W fun e w' => RP (Q.act ins st [106, x]) (if Q.isE st then (x.toNat : Int) else -1) W e w' := by
  have hn8 := hk.1
  have hcap := h.c
  have hB0 : Below W.heap.size W (W.alloc (.cells #[] 9)) := (Below.refl _ W).alloc (Nat.le_refl _) _
  have hsz : (M.bs [106, x]).size = 2 := M.bs_size _
  have hi := idx_0 [106, x] 106 rfl
  have hi1 := idx_1 [106, x] x rfl
  have hx8 := x.toNat_lt
  rcases st with _ | ⟨t, r⟩
  · have HE : Hid ((Q.act ins [] [106, x]).1 = 31) := by show _ = _; rfl
    have HB : Hid (Below W.heap.size W W) := Below.refl _ _
    clear h hx2 hil hB0
    generalize Q.act ins [] [106, x] = R at *
    go_enter Tryz.func76, Tryz.ntmps76
    go_wp2_with (first | (go_at_call 101; refine (pop_106 _).mono ?_; rintro e w' ⟨rfl, hw⟩; rw [hw]; clear hw w'))
    go_ret3
    exact RP.err HE.out (by decide) HB.out
  · rcases t with _ | ⟨y, t⟩
    · have OW0 : Hid _ := own0 W
      have hbn : M.bs [] = M.bs [] := rfl
      have kt := h.at (i := r.length) (t := []) (by simp)
      have TXR : Hid (TX (W.alloc (.cells #[] 9)) (some ⟨g, 0, none⟩) r.reverse) := TX.belowM (TX.pre (m := [[]]) (by have := h.t; simpa using this)) hB0
      have LR : Hid (r.reverse.length = r.length) := by show _ = _; simp
      have htl := hk.2 [] (by simp)
      have hst := M.bs_size []
      simp only [List.length_cons] at hn8 hcap
      have hgb := h.b
      have HE : Hid (Q.act ins ([] :: r) [106, x] = (0, r)) := by show _ = _; rfl
      have hq := bs_nil
      generalize Q.act ins ([] :: r) [106, x] = R at *
      clear h hx2
      generalize M.bs [] = B at *
      go_enter Tryz.func76, Tryz.ntmps76
      go_wp2_with (first
        | (go_at_call 101; refine (pop_106 _).mono ?_; rintro e w' ⟨rfl, hw⟩; rw [hw]; clear hw w')
        | (at_builtin; refine wl_appB rfl _ _ rfl W.heap.size [] _ _ _ rfl OW0.out (some ⟨g, 0, none⟩) r.reverse cap r.length r.length LR.out (by simp) rfl TXR.out (by simp) (by omega) ?_; clear OW0 TXR; intro g5 c5 w5 hown5 hb5; rw [List.nil_append] at hown5; have HB5 : Hid (Below W.heap.size W w5) := hB0.trans hb5; have OW5 : Hid _ := hown5; clear hown5 hb5; have kt5 : w5.cell? ⟨g, r.length, none⟩ = some (.string B) := (HB5.out.cell (p := ⟨g, r.length, none⟩) hgb).trans kt))
      go_ret3
      exact RP.ok HE.out (LS.of OW5.out rfl rfl) HB5.out
    · have OW0 : Hid _ := own0 W
      have kt := h.at (i := r.length) (t := y :: t) (by simp)
      have TXR : Hid (TX (W.alloc (.cells #[] 9)) (some ⟨g, 0, none⟩) r.reverse) := TX.belowM (TX.pre (m := [y :: t]) (by have := h.t; simpa using this)) hB0
      have LR : Hid (r.reverse.length = r.length) := by show _ = _; simp
      have htl := hk.2 (y :: t) (by simp)
      have hst := M.bs_size (y :: t)
      simp only [List.length_cons] at hn8 hcap
      have hgb := h.b
      have HE : Hid (Q.act ins ((y :: t) :: r) [106, x] = (0, r)) := by show _ = _; rfl
      have hq := bs_ne (y :: t) (by simp)
      generalize Q.act ins ((y :: t) :: r) [106, x] = R at *
      clear h hx2
      generalize M.bs (y :: t) = B at *
      go_enter Tryz.func76, Tryz.ntmps76
      go_wp2_with (first
        | (go_at_call 101; refine (pop_106 _).mono ?_; rintro e w' ⟨rfl, hw⟩; rw [hw]; clear hw w')
        | (at_builtin; refine wl_appB rfl _ _ rfl W.heap.size [] _ _ _ rfl OW0.out (some ⟨g, 0, none⟩) r.reverse cap r.length r.length LR.out (by simp) rfl TXR.out (by simp) (by omega) ?_; clear OW0 TXR; intro g5 c5 w5 hown5 hb5; rw [List.nil_append] at hown5; have HB5 : Hid (Below W.heap.size W w5) := hB0.trans hb5; have OW5 : Hid _ := hown5; clear hown5 hb5; have kt5 : w5.cell? ⟨g, r.length, none⟩ = some (.string B) := (HB5.out.cell (p := ⟨g, r.length, none⟩) hgb).trans kt))
      go_ret3
      exact RP.ok HE.out (LS.of OW5.out rfl rfl) HB5.out
end Go.Proofs.YtlblbdfpcaplkaaGreatDoor
