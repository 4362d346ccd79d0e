/- V4 V5 V6 Mex -/
import Derived.Test.YtodcafmhaleemaaDoorVA
/- What the reference's step answers, letter by letter. -/
namespace Go.Proofs.YtodcafmhaleemaaDoor
open Go.RowKit
set_option linter.unusedVariables false
set_option linter.unusedSimpArgs false

set_option maxRecDepth 8000 in
set_option maxHeartbeats 2000000 in
theorem rdo_x {W : World} (g cap : Nat) (st : List (List UInt8)) (a2 : Option Addr) (c2 : Nat) (ins : List (List UInt8)) (h : LS W g cap st) (hk : Q.Oks st) (hx2 : TX W a2 ins) (h4 : ins.length ≤ 4) (hil : ∀ t ∈ ins, t.length ≤ 512) :
    Calls Tryd.prog 20 #[.slice (some ⟨g, 0, none⟩) st.length cap, .string (M.bs [120]), .slice a2 ins.length c2] W fun e w' => RP (Q.act ins st [120]) (-1) W e w' := by
  have hn8 := hk.1
  have hcap := h.c
  have hB0 : Below W.heap.size W (W.alloc (.cells #[] 9)) := (Below.refl _ W).alloc (Nat.le_refl _) _
  have hsz : (M.bs [120]).size = 1 := M.bs_size _
  have hi := idx_0 [120] 120 rfl
  rcases st with _ | ⟨t, r⟩
  · have HE : Hid ((Q.act ins [] [120]).1 = 31) := by show _ = _; rfl
    have HB : Hid (Below W.heap.size W W) := Below.refl _ _
    clear h hx2 hil hB0
    generalize Q.act ins [] [120] = R at *
    go_enter Tryd.func20, Tryd.ntmps20
    go_wp2_with (first | (go_at_call 28; refine (pop_120 _).mono ?_; rintro e w' ⟨rfl, hw⟩; rw [hw]; clear hw w'))
    go_ret3
    exact RP.err HE.out (by decide) HB.out
  · have OW0 : Hid _ := own0 W
    have kt := h.at (i := r.length) (t := t) (by simp)
    have TXR : Hid (TX (W.alloc (.cells #[] 9)) (some ⟨g, 0, none⟩) r.reverse) := TX.belowM (TX.pre (m := [t]) (by have := h.t; simpa using this)) hB0
    have LR : Hid (r.reverse.length = r.length) := by show _ = _; simp
    have htl := hk.2 t (by simp)
    have hst := M.bs_size t
    simp only [List.length_cons] at hn8 hcap
    have hgb := h.b
    have HE : Hid (Q.act ins (t :: r) [120] = (0, r)) := by show _ = _; rfl
    generalize Q.act ins (t :: r) [120] = R at *
    clear h hx2
    go_enter Tryd.func20, Tryd.ntmps20
    go_wp2_with (first
      | (go_at_call 28; refine (pop_120 _).mono ?_; rintro e w' ⟨rfl, hw⟩; rw [hw]; clear hw w')
      | (at_builtin; refine wl_appB rfl _ _ rfl W.heap.size [] _ _ _ rfl OW0.out (some ⟨g, 0, none⟩) r.reverse cap r.length r.length LR.out (by simp) rfl TXR.out (by simp) (by omega) ?_; clear OW0 TXR; intro g5 c5 w5 hown5 hb5; rw [List.nil_append] at hown5; have HB5 : Hid (Below W.heap.size W w5) := hB0.trans hb5; have OW5 : Hid _ := hown5; clear hown5 hb5; have kt5 : w5.cell? ⟨g, r.length, none⟩ = some (.string (M.bs t)) := (HB5.out.cell (p := ⟨g, r.length, none⟩) hgb).trans kt))
    go_ret3
    exact RP.ok HE.out (LS.of OW5.out rfl rfl) HB5.out
set_option maxRecDepth 8000 in
set_option maxHeartbeats 2000000 in
theorem rdo_t {W : World} (g cap : Nat) (st : List (List UInt8)) (a2 : Option Addr) (c2 : Nat) (ins : List (List UInt8)) (h : LS W g cap st) (hk : Q.Oks st) (hx2 : TX W a2 ins) (h4 : ins.length ≤ 4) (hil : ∀ t ∈ ins, t.length ≤ 512) (x : UInt8) :
    Calls Tryd.prog 20 #[.slice (some ⟨g, 0, none⟩) st.length cap, .string (M.bs [116, x]), .slice a2 ins.length c2] W fun e w' => RP (Q.act ins st [116, x]) (-1) W e w' := by
  have hn8 := hk.1
  have hcap := h.c
  have hB0 : Below W.heap.size W (W.alloc (.cells #[] 9)) := (Below.refl _ W).alloc (Nat.le_refl _) _
  have hsz : (M.bs [116, x]).size = 2 := M.bs_size _
  have hi := idx_0 [116, x] 116 rfl
  have hi1 := idx_1 [116, x] x rfl
  have hx8 := x.toNat_lt
  rcases st with _ | ⟨t, r⟩
  · have HE : Hid ((Q.act ins [] [116, x]).1 = 31) := by show _ = _; rfl
    have HB : Hid (Below W.heap.size W W) := Below.refl _ _
    clear h hx2 hil hB0
    generalize Q.act ins [] [116, x] = R at *
    go_enter Tryd.func20, Tryd.ntmps20
    go_wp2_with (first | (go_at_call 28; refine (pop_116 _).mono ?_; rintro e w' ⟨rfl, hw⟩; rw [hw]; clear hw w'))
    go_ret3
    exact RP.err HE.out (by decide) HB.out
  · by_cases hb2 : x.toNat < t.length
    · have OW0 : Hid _ := own0 W
      have kt := h.at (i := r.length) (t := t) (by simp)
      have TXR : Hid (TX (W.alloc (.cells #[] 9)) (some ⟨g, 0, none⟩) r.reverse) := TX.belowM (TX.pre (m := [t]) (by have := h.t; simpa using this)) hB0
      have LR : Hid (r.reverse.length = r.length) := by show _ = _; simp
      have htl := hk.2 t (by simp)
      have hst := M.bs_size t
      simp only [List.length_cons] at hn8 hcap
      have hgb := h.b
      have HE : Hid (Q.act ins (t :: r) [116, x] = (0, (t.take x.toNat) :: r)) := by show _ = _; rw [show Q.act ins (t :: r) [116, x] = Q.put (r) (t.take x.toNat) by (unfold Q.act; simp [Q.change, Q.fold, Q.double])]; exact put0 (by first | omega | (simp; omega)) (by first | omega | assumption | (simp <;> omega))
      have hvl : (t.take x.toNat).length ≤ 512 := by simp; omega
      have hsv := M.bs_size (t.take x.toNat)
      have htk : (M.bs t).extract 0 x.toNat = M.bs (t.take x.toNat) := by rw [cut_bs]; simp
      generalize Q.act ins (t :: r) [116, x] = R at *
      clear h hx2
      go_enter Tryd.func20, Tryd.ntmps20
      go_wp2_with (first
        | (go_at_call 28; refine (pop_116 _).mono ?_; rintro e w' ⟨rfl, hw⟩; rw [hw]; clear hw w')
        | (at_builtin; refine wl_appB rfl _ _ rfl W.heap.size [] _ _ _ rfl OW0.out (some ⟨g, 0, none⟩) r.reverse cap r.length r.length LR.out (by simp) rfl TXR.out (by simp) (by omega) ?_; clear OW0 TXR; intro g5 c5 w5 hown5 hb5; rw [List.nil_append] at hown5; have HB5 : Hid (Below W.heap.size W w5) := hB0.trans hb5; have OW5 : Hid _ := hown5; clear hown5 hb5; have kt5 : w5.cell? ⟨g, r.length, none⟩ = some (.string (M.bs t)) := (HB5.out.cell (p := ⟨g, r.length, none⟩) hgb).trans kt)
        | (at_builtin; refine wl_appB rfl _ _ rfl W.heap.size (r.reverse) _ _ _ rfl (World.ownsRow.alloc (w := w5) OW5.out _) (some ⟨w5.heap.size, 0, none⟩) [t.take x.toNat] 1 1 (r.length + 1) rfl (by simp) rfl (tx_one _ _ _) (by have := HB5.out.size; simp; omega) (by omega) ?_; clear OW5; intro g6 c6 w6 hown hb; have OW6 : Hid _ := hown; have HB6 : Hid (Below W.heap.size W w6) := (HB5.out.alloc HB5.out.size _).trans hb; clear hown hb))
      go_ret3
      exact RP.ok HE.out (LS.of OW6.out (by simp) rfl) HB6.out
    · have OW0 : Hid _ := own0 W
      have kt := h.at (i := r.length) (t := t) (by simp)
      have TXR : Hid (TX (W.alloc (.cells #[] 9)) (some ⟨g, 0, none⟩) r.reverse) := TX.belowM (TX.pre (m := [t]) (by have := h.t; simpa using this)) hB0
      have LR : Hid (r.reverse.length = r.length) := by show _ = _; simp
      have htl := hk.2 t (by simp)
      have hst := M.bs_size t
      simp only [List.length_cons] at hn8 hcap
      have hgb := h.b
      have HE : Hid (Q.act ins (t :: r) [116, x] = (0, (t) :: r)) := by show _ = _; rw [show Q.act ins (t :: r) [116, x] = Q.put (r) (t.take x.toNat) by (unfold Q.act; simp [Q.change, Q.fold, Q.double])]; rw [List.take_of_length_le (Nat.le_of_not_lt hb2)]; exact put0 (by first | omega | (simp; omega)) (by first | omega | assumption | (simp <;> omega))
      generalize Q.act ins (t :: r) [116, x] = R at *
      clear h hx2
      go_enter Tryd.func20, Tryd.ntmps20
      go_wp2_with (first
        | (go_at_call 28; refine (pop_116 _).mono ?_; rintro e w' ⟨rfl, hw⟩; rw [hw]; clear hw w')
        | (at_builtin; refine wl_appB rfl _ _ rfl W.heap.size [] _ _ _ rfl OW0.out (some ⟨g, 0, none⟩) r.reverse cap r.length r.length LR.out (by simp) rfl TXR.out (by simp) (by omega) ?_; clear OW0 TXR; intro g5 c5 w5 hown5 hb5; rw [List.nil_append] at hown5; have HB5 : Hid (Below W.heap.size W w5) := hB0.trans hb5; have OW5 : Hid _ := hown5; clear hown5 hb5; have kt5 : w5.cell? ⟨g, r.length, none⟩ = some (.string (M.bs t)) := (HB5.out.cell (p := ⟨g, r.length, none⟩) hgb).trans kt)
        | (at_builtin; refine wl_appB rfl _ _ rfl W.heap.size (r.reverse) _ _ _ rfl (World.ownsRow.alloc (w := w5) OW5.out _) (some ⟨w5.heap.size, 0, none⟩) [t] 1 1 (r.length + 1) rfl (by simp) rfl (tx_one _ _ _) (by have := HB5.out.size; simp; omega) (by omega) ?_; clear OW5; intro g6 c6 w6 hown hb; have OW6 : Hid _ := hown; have HB6 : Hid (Below W.heap.size W w6) := (HB5.out.alloc HB5.out.size _).trans hb; clear hown hb))
      go_ret3
      exact RP.ok HE.out (LS.of OW6.out (by simp) rfl) HB6.out
set_option maxRecDepth 8000 in
set_option maxHeartbeats 2000000 in
theorem rdo_k {W : World} (g cap : Nat) (st : List (List UInt8)) (a2 : Option Addr) (c2 : Nat) (ins : List (List UInt8)) (h : LS W g cap st) (hk : Q.Oks st) (hx2 : TX W a2 ins) (h4 : ins.length ≤ 4) (hil : ∀ t ∈ ins, t.length ≤ 512) (x : UInt8) :
    Calls Tryd.prog 20 #[.slice (some ⟨g, 0, none⟩) st.length cap, .string (M.bs [107, x]), .slice a2 ins.length c2] W fun e w' => RP (Q.act ins st [107, x]) (-1) W e w' := by
  have hn8 := hk.1
  have hcap := h.c
  have hB0 : Below W.heap.size W (W.alloc (.cells #[] 9)) := (Below.refl _ W).alloc (Nat.le_refl _) _
  have hsz : (M.bs [107, x]).size = 2 := M.bs_size _
  have hi := idx_0 [107, x] 107 rfl
  have hi1 := idx_1 [107, x] x rfl
  have hx8 := x.toNat_lt
  rcases st with _ | ⟨t, r⟩
  · have HE : Hid ((Q.act ins [] [107, x]).1 = 31) := by show _ = _; rfl
    have HB : Hid (Below W.heap.size W W) := Below.refl _ _
    clear h hx2 hil hB0
    generalize Q.act ins [] [107, x] = R at *
    go_enter Tryd.func20, Tryd.ntmps20
    go_wp2_with (first | (go_at_call 28; refine (pop_107 _).mono ?_; rintro e w' ⟨rfl, hw⟩; rw [hw]; clear hw w'))
    go_ret3
    exact RP.err HE.out (by decide) HB.out
  · by_cases hb2 : x.toNat < t.length
    · have OW0 : Hid _ := own0 W
      have kt := h.at (i := r.length) (t := t) (by simp)
      have TXR : Hid (TX (W.alloc (.cells #[] 9)) (some ⟨g, 0, none⟩) r.reverse) := TX.belowM (TX.pre (m := [t]) (by have := h.t; simpa using this)) hB0
      have LR : Hid (r.reverse.length = r.length) := by show _ = _; simp
      have htl := hk.2 t (by simp)
      have hst := M.bs_size t
      simp only [List.length_cons] at hn8 hcap
      have hgb := h.b
      have HE : Hid (Q.act ins (t :: r) [107, x] = (0, (t.drop x.toNat) :: r)) := by show _ = _; rw [show Q.act ins (t :: r) [107, x] = Q.put (r) (t.drop x.toNat) by (unfold Q.act; simp [Q.change, Q.fold, Q.double])]; exact put0 (by first | omega | (simp; omega)) (by first | omega | assumption | (simp <;> omega))
      have hvl : (t.drop x.toNat).length ≤ 512 := by simp; omega
      have hsv := M.bs_size (t.drop x.toNat)
      have htk : (M.bs t).extract x.toNat t.length = M.bs (t.drop x.toNat) := by have := drop_bs t x.toNat; rwa [hst] at this
      generalize Q.act ins (t :: r) [107, x] = R at *
      clear h hx2
      go_enter Tryd.func20, Tryd.ntmps20
      go_wp2_with (first
        | (go_at_call 28; refine (pop_107 _).mono ?_; rintro e w' ⟨rfl, hw⟩; rw [hw]; clear hw w')
        | (at_builtin; refine wl_appB rfl _ _ rfl W.heap.size [] _ _ _ rfl OW0.out (some ⟨g, 0, none⟩) r.reverse cap r.length r.length LR.out (by simp) rfl TXR.out (by simp) (by omega) ?_; clear OW0 TXR; intro g5 c5 w5 hown5 hb5; rw [List.nil_append] at hown5; have HB5 : Hid (Below W.heap.size W w5) := hB0.trans hb5; have OW5 : Hid _ := hown5; clear hown5 hb5; have kt5 : w5.cell? ⟨g, r.length, none⟩ = some (.string (M.bs t)) := (HB5.out.cell (p := ⟨g, r.length, none⟩) hgb).trans kt)
        | (at_builtin; refine wl_appB rfl _ _ rfl W.heap.size (r.reverse) _ _ _ rfl (World.ownsRow.alloc (w := w5) OW5.out _) (some ⟨w5.heap.size, 0, none⟩) [t.drop x.toNat] 1 1 (r.length + 1) rfl (by simp) rfl (tx_one _ _ _) (by have := HB5.out.size; simp; omega) (by omega) ?_; clear OW5; intro g6 c6 w6 hown hb; have OW6 : Hid _ := hown; have HB6 : Hid (Below W.heap.size W w6) := (HB5.out.alloc HB5.out.size _).trans hb; clear hown hb))
      go_ret3
      exact RP.ok HE.out (LS.of OW6.out (by simp) rfl) HB6.out
    · have OW0 : Hid _ := own0 W
      have kt := h.at (i := r.length) (t := t) (by simp)
      have TXR : Hid (TX (W.alloc (.cells #[] 9)) (some ⟨g, 0, none⟩) r.reverse) := TX.belowM (TX.pre (m := [t]) (by have := h.t; simpa using this)) hB0
      have LR : Hid (r.reverse.length = r.length) := by show _ = _; simp
      have htl := hk.2 t (by simp)
      have hst := M.bs_size t
      simp only [List.length_cons] at hn8 hcap
      have hgb := h.b
      have HE : Hid (Q.act ins (t :: r) [107, x] = (0, ([]) :: r)) := by show _ = _; rw [show Q.act ins (t :: r) [107, x] = Q.put (r) (t.drop x.toNat) by (unfold Q.act; simp [Q.change, Q.fold, Q.double])]; rw [List.drop_of_length_le (Nat.le_of_not_lt hb2)]; exact put0 (by first | omega | (simp; omega)) (by first | omega | assumption | (simp <;> omega))
      generalize Q.act ins (t :: r) [107, x] = R at *
      clear h hx2
      go_enter Tryd.func20, Tryd.ntmps20
      go_wp2_with (first
        | (go_at_call 28; refine (pop_107 _).mono ?_; rintro e w' ⟨rfl, hw⟩; rw [hw]; clear hw w')
        | (at_builtin; refine wl_appB rfl _ _ rfl W.heap.size [] _ _ _ rfl OW0.out (some ⟨g, 0, none⟩) r.reverse cap r.length r.length LR.out (by simp) rfl TXR.out (by simp) (by omega) ?_; clear OW0 TXR; intro g5 c5 w5 hown5 hb5; rw [List.nil_append] at hown5; have HB5 : Hid (Below W.heap.size W w5) := hB0.trans hb5; have OW5 : Hid _ := hown5; clear hown5 hb5; have kt5 : w5.cell? ⟨g, r.length, none⟩ = some (.string (M.bs t)) := (HB5.out.cell (p := ⟨g, r.length, none⟩) hgb).trans kt)
        | (at_builtin; refine wl_appB rfl _ _ rfl W.heap.size (r.reverse) _ _ _ rfl (World.ownsRow.alloc (w := w5) OW5.out _) (some ⟨w5.heap.size, 0, none⟩) [[]] 1 1 (r.length + 1) rfl (by simp) rfl (tx_one _ _ _) (by have := HB5.out.size; simp; omega) (by omega) ?_; clear OW5; intro g6 c6 w6 hown hb; have OW6 : Hid _ := hown; have HB6 : Hid (Below W.heap.size W w6) := (HB5.out.alloc HB5.out.size _).trans hb; clear hown hb))
      go_ret3
      exact RP.ok HE.out (LS.of OW6.out (by simp) rfl) HB6.out
set_option maxRecDepth 8000 in
set_option maxHeartbeats 2000000 in
theorem rdo_h {W : World} (g cap : Nat) (st : List (List UInt8)) (a2 : Option Addr) (c2 : Nat) (ins : List (List UInt8)) (h : LS W g cap st) (hk : Q.Oks st) (hx2 : TX W a2 ins) (h4 : ins.length ≤ 4) (hil : ∀ t ∈ ins, t.length ≤ 512) :
    Calls Tryd.prog 20 #[.slice (some ⟨g, 0, none⟩) st.length cap, .string (M.bs [104]), .slice a2 ins.length c2] W fun e w' => RP (Q.act ins st [104]) (-1) W e w' := by
  have hn8 := hk.1
  have hcap := h.c
  have hB0 : Below W.heap.size W (W.alloc (.cells #[] 9)) := (Below.refl _ W).alloc (Nat.le_refl _) _
  have hsz : (M.bs [104]).size = 1 := M.bs_size _
  have hi := idx_0 [104] 104 rfl
  rcases st with _ | ⟨t, r⟩
  · have HE : Hid ((Q.act ins [] [104]).1 = 31) := by show _ = _; rfl
    have HB : Hid (Below W.heap.size W W) := Below.refl _ _
    clear h hx2 hil hB0
    generalize Q.act ins [] [104] = R at *
    go_enter Tryd.func20, Tryd.ntmps20
    go_wp2_with (first | (go_at_call 28; refine (pop_104 _).mono ?_; rintro e w' ⟨rfl, hw⟩; rw [hw]; clear hw w'))
    go_ret3
    exact RP.err HE.out (by decide) HB.out
  · have OW0 : Hid _ := own0 W
    have kt := h.at (i := r.length) (t := t) (by simp)
    have TXR : Hid (TX (W.alloc (.cells #[] 9)) (some ⟨g, 0, none⟩) r.reverse) := TX.belowM (TX.pre (m := [t]) (by have := h.t; simpa using this)) hB0
    have LR : Hid (r.reverse.length = r.length) := by show _ = _; simp
    have htl := hk.2 t (by simp)
    have hst := M.bs_size t
    simp only [List.length_cons] at hn8 hcap
    have hgb := h.b
    have HE : Hid (Q.act ins (t :: r) [104] = (0, (S.sha t) :: r)) := by show _ = _; rw [show Q.act ins (t :: r) [104] = Q.put (r) (S.sha t) by (unfold Q.act; simp [Q.change, Q.fold, Q.double])]; exact put0 (by first | omega | (simp; omega)) (by first | omega | assumption | (rw [S.sha_length]; omega))
    have hvl : (S.sha t).length = 32 := S.sha_length t
    have hsv := M.bs_size (S.sha t)
    have CO : Hid (∀ W, Calls Tryd.prog 30 #[.string (M.bs t)] W fun e w' => e = .returned (.agg (dg (S.sha t))) ∧ Below W.heap.size W w') := fun W => rOf t (by omega) W
    have CB : Hid (∀ W, Calls Tryd.prog 29 #[.agg (dg (S.sha t))] W fun e w' => e = .returned (.string (M.bs (S.sha t))) ∧ Below W.heap.size W w') := fun W => rBytes_m _ (S.sha_length t) W
    generalize Q.act ins (t :: r) [104] = R at *
    clear h hx2
    generalize S.sha t = sh at *
    generalize dg sh = D at *
    go_enter Tryd.func20, Tryd.ntmps20
    go_wp2_with (first
      | (go_at_call 28; refine (pop_104 _).mono ?_; rintro e w' ⟨rfl, hw⟩; rw [hw]; clear hw w')
      | (at_builtin; refine wl_appB rfl _ _ rfl W.heap.size [] _ _ _ rfl OW0.out (some ⟨g, 0, none⟩) r.reverse cap r.length r.length LR.out (by simp) rfl TXR.out (by simp) (by omega) ?_; clear OW0 TXR; intro g5 c5 w5 hown5 hb5; rw [List.nil_append] at hown5; have HB5 : Hid (Below W.heap.size W w5) := hB0.trans hb5; have OW5 : Hid _ := hown5; clear hown5 hb5; have kt5 : w5.cell? ⟨g, r.length, none⟩ = some (.string (M.bs t)) := (HB5.out.cell (p := ⟨g, r.length, none⟩) hgb).trans kt)
      | (go_at_call 30; refine (CO.out _).mono ?_; clear CO; rintro e w7 ⟨rfl, hb⟩; have HB7 : Hid (Below W.heap.size W w7) := HB5.out.trans (hb.mono HB5.out.size); have OW7 : Hid _ := ownsRow_below OW5.out hb; clear hb OW5)
      | (go_at_call 29; refine (CB.out _).mono ?_; clear CB; rintro e w8 ⟨rfl, hb⟩; have HB8 : Hid (Below W.heap.size W w8) := HB7.out.trans (hb.mono HB7.out.size); have OW8 : Hid _ := ownsRow_below OW7.out hb; clear hb OW7)
      | (at_builtin; refine wl_appB rfl _ _ rfl W.heap.size (r.reverse) _ _ _ rfl (World.ownsRow.alloc (w := w8) OW8.out _) (some ⟨w8.heap.size, 0, none⟩) [sh] 1 1 (r.length + 1) rfl (by simp) rfl (tx_one _ _ _) (by have := HB8.out.size; simp; omega) (by omega) ?_; clear OW8; intro g6 c6 w6 hown hb; have OW6 : Hid _ := hown; have HB6 : Hid (Below W.heap.size W w6) := (HB8.out.alloc HB8.out.size _).trans hb; clear hown hb))
    go_ret3
    exact RP.ok HE.out (LS.of OW6.out (by simp) rfl) HB6.out
set_option maxRecDepth 8000 in
set_option maxHeartbeats 2000000 in
theorem rdo_l {W : World} (g cap : Nat) (st : List (List UInt8)) (a2 : Option Addr) (c2 : Nat) (ins : List (List UInt8)) (h : LS W g cap st) (hk : Q.Oks st) (hx2 : TX W a2 ins) (h4 : ins.length ≤ 4) (hil : ∀ t ∈ ins, t.length ≤ 512) :
    Calls Tryd.prog 20 #[.slice (some ⟨g, 0, none⟩) st.length cap, .string (M.bs [108]), .slice a2 ins.length c2] W fun e w' => RP (Q.act ins st [108]) (-1) W e w' := by
  have hn8 := hk.1
  have hcap := h.c
  have hB0 : Below W.heap.size W (W.alloc (.cells #[] 9)) := (Below.refl _ W).alloc (Nat.le_refl _) _
  have hsz : (M.bs [108]).size = 1 := M.bs_size _
  have hi := idx_0 [108] 108 rfl
  rcases st with _ | ⟨t, r⟩
  · have HE : Hid ((Q.act ins [] [108]).1 = 31) := by show _ = _; rfl
    have HB : Hid (Below W.heap.size W W) := Below.refl _ _
    clear h hx2 hil hB0
    generalize Q.act ins [] [108] = R at *
    go_enter Tryd.func20, Tryd.ntmps20
    go_wp2_with (first | (go_at_call 28; refine (pop_108 _).mono ?_; rintro e w' ⟨rfl, hw⟩; rw [hw]; clear hw w'))
    go_ret3
    exact RP.err HE.out (by decide) HB.out
  · have OW0 : Hid _ := own0 W
    have kt := h.at (i := r.length) (t := t) (by simp)
    have TXR : Hid (TX (W.alloc (.cells #[] 9)) (some ⟨g, 0, none⟩) r.reverse) := TX.belowM (TX.pre (m := [t]) (by have := h.t; simpa using this)) hB0
    have LR : Hid (r.reverse.length = r.length) := by show _ = _; simp
    have htl := hk.2 t (by simp)
    have hst := M.bs_size t
    simp only [List.length_cons] at hn8 hcap
    have hgb := h.b
    have HE : Hid (Q.act ins (t :: r) [108] = (0, (Q.len t) :: r)) := by show _ = _; rw [show Q.act ins (t :: r) [108] = Q.put (r) (Q.len t) by (unfold Q.act; simp [Q.change, Q.fold, Q.double])]; exact put0 (by first | omega | (simp; omega)) (by first | omega | assumption | exact len_512 t htl)
    have hvl : (Q.len t).length ≤ 512 := len_512 t htl
    have hsv := M.bs_size (Q.len t)
    have CD : Hid (∀ W, Calls Tryd.prog 31 #[.int .i64 (t.length : Int)] W fun e w' => e = .returned (.string (M.bs (Q.len t))) ∧ Below W.heap.size W w') := fun W => by
      refine (digits_m t.length htl W).mono ?_
      rintro e w' ⟨rfl, k, rfl⟩
      exact ⟨by rw [len_is], below_drewN (Below.refl _ _) k⟩
    generalize Q.act ins (t :: r) [108] = R at *
    clear h hx2
    generalize Q.len t = ln at *
    go_enter Tryd.func20, Tryd.ntmps20
    go_wp2_with (first
      | (go_at_call 28; refine (pop_108 _).mono ?_; rintro e w' ⟨rfl, hw⟩; rw [hw]; clear hw w')
      | (at_builtin; refine wl_appB rfl _ _ rfl W.heap.size [] _ _ _ rfl OW0.out (some ⟨g, 0, none⟩) r.reverse cap r.length r.length LR.out (by simp) rfl TXR.out (by simp) (by omega) ?_; clear OW0 TXR; intro g5 c5 w5 hown5 hb5; rw [List.nil_append] at hown5; have HB5 : Hid (Below W.heap.size W w5) := hB0.trans hb5; have OW5 : Hid _ := hown5; clear hown5 hb5; have kt5 : w5.cell? ⟨g, r.length, none⟩ = some (.string (M.bs t)) := (HB5.out.cell (p := ⟨g, r.length, none⟩) hgb).trans kt)
      | (go_at_call 31; refine (CD.out _).mono ?_; clear CD; rintro e w7 ⟨rfl, hb⟩; have HB7 : Hid (Below W.heap.size W w7) := HB5.out.trans (hb.mono HB5.out.size); have OW7 : Hid _ := ownsRow_below OW5.out hb; clear hb OW5)
      | (at_builtin; refine wl_appB rfl _ _ rfl W.heap.size (r.reverse) _ _ _ rfl (World.ownsRow.alloc (w := w7) OW7.out _) (some ⟨w7.heap.size, 0, none⟩) [ln] 1 1 (r.length + 1) rfl (by simp) rfl (tx_one _ _ _) (by have := HB7.out.size; simp; omega) (by omega) ?_; clear OW7; intro g6 c6 w6 hown hb; have OW6 : Hid _ := hown; have HB6 : Hid (Below W.heap.size W w6) := (HB7.out.alloc HB7.out.size _).trans hb; clear hown hb))
    go_ret3
    exact RP.ok HE.out (LS.of OW6.out (by simp) rfl) HB6.out
set_option maxRecDepth 8000 in
set_option maxHeartbeats 2000000 in
theorem rdo_d {W : World} (g cap : Nat) (st : List (List UInt8)) (a2 : Option Addr) (c2 : Nat) (ins : List (List UInt8)) (h : LS W g cap st) (hk : Q.Oks st) (hx2 : TX W a2 ins) (h4 : ins.length ≤ 4) (hil : ∀ t ∈ ins, t.length ≤ 512) :
    Calls Tryd.prog 20 #[.slice (some ⟨g, 0, none⟩) st.length cap, .string (M.bs [100]), .slice a2 ins.length c2] W fun e w' => RP (Q.act ins st [100]) (-1) W e w' := by
  have hn8 := hk.1
  have hcap := h.c
  have hB0 : Below W.heap.size W (W.alloc (.cells #[] 9)) := (Below.refl _ W).alloc (Nat.le_refl _) _
  have hsz : (M.bs [100]).size = 1 := M.bs_size _
  have hi := idx_0 [100] 100 rfl
  rcases st with _ | ⟨t, r⟩
  · have HE : Hid ((Q.act ins [] [100]).1 = 31) := by show _ = _; rfl
    have HB : Hid (Below W.heap.size W W) := Below.refl _ _
    clear h hx2 hil hB0
    generalize Q.act ins [] [100] = R at *
    go_enter Tryd.func20, Tryd.ntmps20
    go_wp2_with (first | (go_at_call 28; refine (pop_100 _).mono ?_; rintro e w' ⟨rfl, hw⟩; rw [hw]; clear hw w'))
    go_ret3
    exact RP.err HE.out (by decide) HB.out
  · by_cases hb2 : 8 ≤ r.length + 1
    · simp only [List.length_cons] at hn8
      have HE : Hid ((Q.act ins (t :: r) [100]).1 = 31) := by show _ = _; rw [show Q.act ins (t :: r) [100] = Q.put (t :: r) t by (unfold Q.act; simp [Q.double])]; exact put31 (by simpa using hb2)
      have HB : Hid (Below W.heap.size W W) := Below.refl _ _
      clear h hx2 hil hB0
      generalize Q.act ins (t :: r) [100] = R at *
      go_enter Tryd.func20, Tryd.ntmps20
      go_wp2_with (first | (go_at_call 28; refine (pop_100 _).mono ?_; rintro e w' ⟨rfl, hw⟩; rw [hw]; clear hw w'))
      go_ret3
      exact RP.err HE.out (by decide) HB.out
    · have OW0 : Hid _ := own0 W
      have kt := h.at (i := r.length) (t := t) (by simp)
      have TXR : Hid (TX (W.alloc (.cells #[] 9)) (some ⟨g, 0, none⟩) r.reverse) := TX.belowM (TX.pre (m := [t]) (by have := h.t; simpa using this)) hB0
      have LR : Hid (r.reverse.length = r.length) := by show _ = _; simp
      have htl := hk.2 t (by simp)
      have hst := M.bs_size t
      simp only [List.length_cons] at hn8 hcap
      have hgb := h.b
      have HE : Hid (Q.act ins (t :: r) [100] = (0, t :: t :: r)) := by show _ = _; rw [show Q.act ins (t :: r) [100] = Q.put (t :: r) (t) by (unfold Q.act; simp [Q.change, Q.fold, Q.double])]; exact put0 (by first | omega | (simp; omega)) (by first | omega | assumption | (simp <;> omega))
      generalize Q.act ins (t :: r) [100] = R at *
      clear h hx2
      go_enter Tryd.func20, Tryd.ntmps20
      go_wp2_with (first
        | (go_at_call 28; refine (pop_100 _).mono ?_; rintro e w' ⟨rfl, hw⟩; rw [hw]; clear hw w')
        | (at_builtin; refine wl_appB rfl _ _ rfl W.heap.size [] _ _ _ rfl OW0.out (some ⟨g, 0, none⟩) r.reverse cap r.length r.length LR.out (by simp) rfl TXR.out (by simp) (by omega) ?_; clear OW0 TXR; intro g5 c5 w5 hown5 hb5; rw [List.nil_append] at hown5; have HB5 : Hid (Below W.heap.size W w5) := hB0.trans hb5; have OW5 : Hid _ := hown5; clear hown5 hb5; have kt5 : w5.cell? ⟨g, r.length, none⟩ = some (.string (M.bs t)) := (HB5.out.cell (p := ⟨g, r.length, none⟩) hgb).trans kt)
        | (at_builtin; refine wl_appB rfl _ _ rfl W.heap.size (r.reverse) _ _ _ rfl (World.ownsRow.alloc (w := w5) OW5.out _) (some ⟨w5.heap.size, 0, none⟩) [t] 1 1 (r.length + 1) rfl (by simp) rfl (tx_one _ _ _) (by have := HB5.out.size; simp; omega) (by omega) ?_; clear OW5; intro g6 c6 w6 hown hb; have OW6 : Hid _ := hown; have HB6 : Hid (Below W.heap.size W w6) := (HB5.out.alloc HB5.out.size _).trans hb; clear hown hb)
        | (at_builtin; refine wl_appB rfl _ _ rfl W.heap.size (r.reverse ++ [t]) _ _ _ rfl (World.ownsRow.alloc (w := w6) OW6.out _) (some ⟨w6.heap.size, 0, none⟩) [t] 1 1 (r.length + 2) rfl (by simp) rfl (tx_one _ _ _) (by have := HB6.out.size; simp; omega) (by omega) ?_; clear OW6; intro g7 c7 w7 hown hb; have OW7 : Hid _ := hown; have HB7 : Hid (Below W.heap.size W w7) := (HB6.out.alloc HB6.out.size _).trans hb; clear hown hb))
      go_ret3
      exact RP.ok HE.out (LS.of OW7.out (by simp) rfl) HB7.out
set_option maxRecDepth 8000 in
set_option maxHeartbeats 2000000 in
theorem rdo_j {W : World} (g cap : Nat) (st : List (List UInt8)) (a2 : Option Addr) (c2 : Nat) (ins : List (List UInt8)) (h : LS W g cap st) (hk : Q.Oks st) (hx2 : TX W a2 ins) (h4 : ins.length ≤ 4) (hil : ∀ t ∈ ins, t.length ≤ 512) (x : UInt8) :
    Calls Tryd.prog 20 #[.slice (some ⟨g, 0, none⟩) st.length cap, .string (M.bs [106, x]), .slice a2 ins.length c2] W fun e w' => RP (Q.act ins st [106, x]) (if Q.isE st then (x.toNat : Int) else -1) W e w' := by
  have hn8 := hk.1
  have hcap := h.c
  have hB0 : Below W.heap.size W (W.alloc (.cells #[] 9)) := (Below.refl _ W).alloc (Nat.le_refl _) _
  have hsz : (M.bs [106, x]).size = 2 := M.bs_size _
  have hi := idx_0 [106, x] 106 rfl
  have hi1 := idx_1 [106, x] x rfl
  have hx8 := x.toNat_lt
  rcases st with _ | ⟨t, r⟩
  · have HE : Hid ((Q.act ins [] [106, x]).1 = 31) := by show _ = _; rfl
    have HB : Hid (Below W.heap.size W W) := Below.refl _ _
    clear h hx2 hil hB0
    generalize Q.act ins [] [106, x] = R at *
    go_enter Tryd.func20, Tryd.ntmps20
    go_wp2_with (first | (go_at_call 28; refine (pop_106 _).mono ?_; rintro e w' ⟨rfl, hw⟩; rw [hw]; clear hw w'))
    go_ret3
    exact RP.err HE.out (by decide) HB.out
  · rcases t with _ | ⟨y, t⟩
    · have OW0 : Hid _ := own0 W
      have hbn : M.bs [] = M.bs [] := rfl
      have kt := h.at (i := r.length) (t := []) (by simp)
      have TXR : Hid (TX (W.alloc (.cells #[] 9)) (some ⟨g, 0, none⟩) r.reverse) := TX.belowM (TX.pre (m := [[]]) (by have := h.t; simpa using this)) hB0
      have LR : Hid (r.reverse.length = r.length) := by show _ = _; simp
      have htl := hk.2 [] (by simp)
      have hst := M.bs_size []
      simp only [List.length_cons] at hn8 hcap
      have hgb := h.b
      have HE : Hid (Q.act ins ([] :: r) [106, x] = (0, r)) := by show _ = _; rfl
      have hq := bs_nil
      generalize Q.act ins ([] :: r) [106, x] = R at *
      clear h hx2
      generalize M.bs [] = B at *
      go_enter Tryd.func20, Tryd.ntmps20
      go_wp2_with (first
        | (go_at_call 28; refine (pop_106 _).mono ?_; rintro e w' ⟨rfl, hw⟩; rw [hw]; clear hw w')
        | (at_builtin; refine wl_appB rfl _ _ rfl W.heap.size [] _ _ _ rfl OW0.out (some ⟨g, 0, none⟩) r.reverse cap r.length r.length LR.out (by simp) rfl TXR.out (by simp) (by omega) ?_; clear OW0 TXR; intro g5 c5 w5 hown5 hb5; rw [List.nil_append] at hown5; have HB5 : Hid (Below W.heap.size W w5) := hB0.trans hb5; have OW5 : Hid _ := hown5; clear hown5 hb5; have kt5 : w5.cell? ⟨g, r.length, none⟩ = some (.string B) := (HB5.out.cell (p := ⟨g, r.length, none⟩) hgb).trans kt))
      go_ret3
      exact RP.ok HE.out (LS.of OW5.out rfl rfl) HB5.out
    · have OW0 : Hid _ := own0 W
      have kt := h.at (i := r.length) (t := y :: t) (by simp)
      have TXR : Hid (TX (W.alloc (.cells #[] 9)) (some ⟨g, 0, none⟩) r.reverse) := TX.belowM (TX.pre (m := [y :: t]) (by have := h.t; simpa using this)) hB0
      have LR : Hid (r.reverse.length = r.length) := by show _ = _; simp
      have htl := hk.2 (y :: t) (by simp)
      have hst := M.bs_size (y :: t)
      simp only [List.length_cons] at hn8 hcap
      have hgb := h.b
      have HE : Hid (Q.act ins ((y :: t) :: r) [106, x] = (0, r)) := by show _ = _; rfl
      have hq := bs_ne (y :: t) (by simp)
      generalize Q.act ins ((y :: t) :: r) [106, x] = R at *
      clear h hx2
      generalize M.bs (y :: t) = B at *
      go_enter Tryd.func20, Tryd.ntmps20
      go_wp2_with (first
        | (go_at_call 28; refine (pop_106 _).mono ?_; rintro e w' ⟨rfl, hw⟩; rw [hw]; clear hw w')
        | (at_builtin; refine wl_appB rfl _ _ rfl W.heap.size [] _ _ _ rfl OW0.out (some ⟨g, 0, none⟩) r.reverse cap r.length r.length LR.out (by simp) rfl TXR.out (by simp) (by omega) ?_; clear OW0 TXR; intro g5 c5 w5 hown5 hb5; rw [List.nil_append] at hown5; have HB5 : Hid (Below W.heap.size W w5) := hB0.trans hb5; have OW5 : Hid _ := hown5; clear hown5 hb5; have kt5 : w5.cell? ⟨g, r.length, none⟩ = some (.string B) := (HB5.out.cell (p := ⟨g, r.length, none⟩) hgb).trans kt))
      go_ret3
      exact RP.ok HE.out (LS.of OW5.out rfl rfl) HB5.out
end Go.Proofs.YtodcafmhaleemaaDoor
/- What the reference's step answers, letter by letter (the rest). -/
namespace Go.Proofs.YtodcafmhaleemaaDoor
open Go.RowKit
set_option linter.unusedVariables false
set_option linter.unusedSimpArgs false

set_option maxRecDepth 8000 in
set_option maxHeartbeats 2000000 in
theorem rdo_c {W : World} (g cap : Nat) (st : List (List UInt8)) (a2 : Option Addr) (c2 : Nat) (ins : List (List UInt8)) (h : LS W g cap st) (hk : Q.Oks st) (hx2 : TX W a2 ins) (h4 : ins.length ≤ 4) (hil : ∀ t ∈ ins, t.length ≤ 512) :
    Calls Tryd.prog 20 #[.slice (some ⟨g, 0, none⟩) st.length cap, .string (M.bs [99]), .slice a2 ins.length c2] W fun e w' => RP (Q.act ins st [99]) (-1) W e w' := by
  have hn8 := hk.1
  have hcap := h.c
  have hB0 : Below W.heap.size W (W.alloc (.cells #[] 9)) := (Below.refl _ W).alloc (Nat.le_refl _) _
  have hsz : (M.bs [99]).size = 1 := M.bs_size _
  have hi := idx_0 [99] 99 rfl
  rcases st with _ | ⟨t, _ | ⟨u, r⟩⟩
  · have HE : Hid ((Q.act ins [] [99]).1 = 31) := by show _ = _; rfl
    have HB : Hid (Below W.heap.size W W) := Below.refl _ _
    clear h hx2 hil hB0
    generalize Q.act ins [] [99] = R at *
    go_enter Tryd.func20, Tryd.ntmps20
    go_wp2_with (first | (go_at_call 28; refine (pop_99 _).mono ?_; rintro e w' ⟨rfl, hw⟩; rw [hw]; clear hw w'))
    go_ret3
    exact RP.err HE.out (by decide) HB.out
  · have HE : Hid ((Q.act ins [t] [99]).1 = 31) := by show _ = _; rfl
    have HB : Hid (Below W.heap.size W W) := Below.refl _ _
    clear h hx2 hil hB0
    generalize Q.act ins [t] [99] = R at *
    go_enter Tryd.func20, Tryd.ntmps20
    go_wp2_with (first | (go_at_call 28; refine (pop_99 _).mono ?_; rintro e w' ⟨rfl, hw⟩; rw [hw]; clear hw w'))
    go_ret3
    exact RP.err HE.out (by decide) HB.out
  · by_cases hb2 : 512 < u.length + t.length
    · have OW0 : Hid _ := own0 W
      have kt := h.at (i := r.length + 1) (t := t) (by simp)
      have ku := h.at (i := r.length) (t := u) (by simp)
      have TXR : Hid (TX (W.alloc (.cells #[] 9)) (some ⟨g, 0, none⟩) r.reverse) := TX.belowM (TX.pre (m := [u, t]) (by have := h.t; simpa using this)) hB0
      have LR : Hid (r.reverse.length = r.length) := by show _ = _; simp
      have htl := hk.2 t (by simp)
      have hul := hk.2 u (by simp)
      have hst := M.bs_size t
      have hsu := M.bs_size u
      have hz2 : (r.length : Int) + 1 + 1 - 2 = (r.length : Int) := by omega
      simp only [List.length_cons] at hn8 hcap
      have hgb := h.b
      have HE : Hid ((Q.act ins (t :: u :: r) [99]).1 = 33) := by show _ = _; rw [show Q.act ins (t :: u :: r) [99] = Q.put r (u ++ t) by (unfold Q.act; simp [Q.fold, Q.change])]; exact put33 (by omega) (by simp; omega)
      have hap : M.bs u ++ M.bs t = M.bs (u ++ t) := bs_append u t
      have hsv := M.bs_size (u ++ t)
      have hlv : (u ++ t).length = u.length + t.length := by simp
      rw [hlv] at hsv
      clear hlv
      generalize Q.act ins (t :: u :: r) [99] = R at *
      clear h hx2
      go_enter Tryd.func20, Tryd.ntmps20
      go_wp2_with (first
        | (go_at_call 28; refine (pop_99 _).mono ?_; rintro e w' ⟨rfl, hw⟩; rw [hw]; clear hw w')
        | (at_builtin; refine wl_appB rfl _ _ rfl W.heap.size [] _ _ _ rfl OW0.out (some ⟨g, 0, none⟩) r.reverse cap r.length r.length LR.out (by simp) rfl TXR.out (by simp) (by omega) ?_; clear OW0 TXR; intro g5 c5 w5 hown5 hb5; rw [List.nil_append] at hown5; have HB5 : Hid (Below W.heap.size W w5) := hB0.trans hb5; have OW5 : Hid _ := hown5; clear hown5 hb5; have kt5 : w5.cell? ⟨g, r.length + 1, none⟩ = some (.string (M.bs t)) := (HB5.out.cell (p := ⟨g, r.length + 1, none⟩) hgb).trans kt; have ku5 : w5.cell? ⟨g, r.length, none⟩ = some (.string (M.bs u)) := (HB5.out.cell (p := ⟨g, r.length, none⟩) hgb).trans ku))
      go_ret3
      exact RP.err HE.out (by decide) HB5.out
    · have OW0 : Hid _ := own0 W
      have kt := h.at (i := r.length + 1) (t := t) (by simp)
      have ku := h.at (i := r.length) (t := u) (by simp)
      have TXR : Hid (TX (W.alloc (.cells #[] 9)) (some ⟨g, 0, none⟩) r.reverse) := TX.belowM (TX.pre (m := [u, t]) (by have := h.t; simpa using this)) hB0
      have LR : Hid (r.reverse.length = r.length) := by show _ = _; simp
      have htl := hk.2 t (by simp)
      have hul := hk.2 u (by simp)
      have hst := M.bs_size t
      have hsu := M.bs_size u
      have hz2 : (r.length : Int) + 1 + 1 - 2 = (r.length : Int) := by omega
      simp only [List.length_cons] at hn8 hcap
      have hgb := h.b
      have HE : Hid (Q.act ins (t :: u :: r) [99] = (0, (u ++ t) :: r)) := by show _ = _; rw [show Q.act ins (t :: u :: r) [99] = Q.put (r) (u ++ t) by (unfold Q.act; simp [Q.change, Q.fold, Q.double])]; exact put0 (by first | omega | (simp; omega)) (by first | omega | assumption | (simp <;> omega))
      have hap : M.bs u ++ M.bs t = M.bs (u ++ t) := bs_append u t
      have hsv := M.bs_size (u ++ t)
      have hlv : (u ++ t).length = u.length + t.length := by simp
      rw [hlv] at hsv
      clear hlv
      generalize Q.act ins (t :: u :: r) [99] = R at *
      clear h hx2
      go_enter Tryd.func20, Tryd.ntmps20
      go_wp2_with (first
        | (go_at_call 28; refine (pop_99 _).mono ?_; rintro e w' ⟨rfl, hw⟩; rw [hw]; clear hw w')
        | (at_builtin; refine wl_appB rfl _ _ rfl W.heap.size [] _ _ _ rfl OW0.out (some ⟨g, 0, none⟩) r.reverse cap r.length r.length LR.out (by simp) rfl TXR.out (by simp) (by omega) ?_; clear OW0 TXR; intro g5 c5 w5 hown5 hb5; rw [List.nil_append] at hown5; have HB5 : Hid (Below W.heap.size W w5) := hB0.trans hb5; have OW5 : Hid _ := hown5; clear hown5 hb5; have kt5 : w5.cell? ⟨g, r.length + 1, none⟩ = some (.string (M.bs t)) := (HB5.out.cell (p := ⟨g, r.length + 1, none⟩) hgb).trans kt; have ku5 : w5.cell? ⟨g, r.length, none⟩ = some (.string (M.bs u)) := (HB5.out.cell (p := ⟨g, r.length, none⟩) hgb).trans ku)
        | (at_builtin; refine wl_appB rfl _ _ rfl W.heap.size (r.reverse) _ _ _ rfl (World.ownsRow.alloc (w := w5) OW5.out _) (some ⟨w5.heap.size, 0, none⟩) [u ++ t] 1 1 (r.length + 1) rfl (by simp) rfl (tx_one _ _ _) (by have := HB5.out.size; simp; omega) (by omega) ?_; clear OW5; intro g6 c6 w6 hown hb; have OW6 : Hid _ := hown; have HB6 : Hid (Below W.heap.size W w6) := (HB5.out.alloc HB5.out.size _).trans hb; clear hown hb))
      go_ret3
      exact RP.ok HE.out (LS.of OW6.out (by simp) rfl) HB6.out
set_option maxRecDepth 8000 in
set_option maxHeartbeats 2000000 in
theorem rdo_e {W : World} (g cap : Nat) (st : List (List UInt8)) (a2 : Option Addr) (c2 : Nat) (ins : List (List UInt8)) (h : LS W g cap st) (hk : Q.Oks st) (hx2 : TX W a2 ins) (h4 : ins.length ≤ 4) (hil : ∀ t ∈ ins, t.length ≤ 512) :
    Calls Tryd.prog 20 #[.slice (some ⟨g, 0, none⟩) st.length cap, .string (M.bs [61]), .slice a2 ins.length c2] W fun e w' => RP (Q.act ins st [61]) (-1) W e w' := by
  have hn8 := hk.1
  have hcap := h.c
  have hB0 : Below W.heap.size W (W.alloc (.cells #[] 9)) := (Below.refl _ W).alloc (Nat.le_refl _) _
  have hsz : (M.bs [61]).size = 1 := M.bs_size _
  have hi := idx_0 [61] 61 rfl
  rcases st with _ | ⟨t, _ | ⟨u, r⟩⟩
  · have HE : Hid ((Q.act ins [] [61]).1 = 31) := by show _ = _; rfl
    have HB : Hid (Below W.heap.size W W) := Below.refl _ _
    clear h hx2 hil hB0
    generalize Q.act ins [] [61] = R at *
    go_enter Tryd.func20, Tryd.ntmps20
    go_wp2_with (first | (go_at_call 28; refine (pop_61 _).mono ?_; rintro e w' ⟨rfl, hw⟩; rw [hw]; clear hw w'))
    go_ret3
    exact RP.err HE.out (by decide) HB.out
  · have HE : Hid ((Q.act ins [t] [61]).1 = 31) := by show _ = _; rfl
    have HB : Hid (Below W.heap.size W W) := Below.refl _ _
    clear h hx2 hil hB0
    generalize Q.act ins [t] [61] = R at *
    go_enter Tryd.func20, Tryd.ntmps20
    go_wp2_with (first | (go_at_call 28; refine (pop_61 _).mono ?_; rintro e w' ⟨rfl, hw⟩; rw [hw]; clear hw w'))
    go_ret3
    exact RP.err HE.out (by decide) HB.out
  · by_cases hb2 : u = t
    · have OW0 : Hid _ := own0 W
      have kt := h.at (i := r.length + 1) (t := t) (by simp)
      have ku := h.at (i := r.length) (t := u) (by simp)
      have TXR : Hid (TX (W.alloc (.cells #[] 9)) (some ⟨g, 0, none⟩) r.reverse) := TX.belowM (TX.pre (m := [u, t]) (by have := h.t; simpa using this)) hB0
      have LR : Hid (r.reverse.length = r.length) := by show _ = _; simp
      have htl := hk.2 t (by simp)
      have hul := hk.2 u (by simp)
      have hst := M.bs_size t
      have hsu := M.bs_size u
      have hz2 : (r.length : Int) + 1 + 1 - 2 = (r.length : Int) := by omega
      simp only [List.length_cons] at hn8 hcap
      have hgb := h.b
      have HE : Hid (Q.act ins (t :: u :: r) [61] = (0, ([49]) :: r)) := by show _ = _; rw [show Q.act ins (t :: u :: r) [61] = Q.put (r) (Q.cmp u t) by (unfold Q.act; simp [Q.change, Q.fold, Q.double])]; rw [show Q.cmp u t = [49] by (unfold Q.cmp; rw [if_pos hb2])]; exact put0 (by first | omega | (simp; omega)) (by first | omega | assumption | (simp <;> omega))
      have hq : ((M.bs u).toList == (M.bs t).toList) = true := by rw [bs_eqM]; simpa using hb2
      generalize Q.act ins (t :: u :: r) [61] = R at *
      clear h hx2 hb2
      go_enter Tryd.func20, Tryd.ntmps20
      go_wp2_with (first
        | (go_at_call 28; refine (pop_61 _).mono ?_; rintro e w' ⟨rfl, hw⟩; rw [hw]; clear hw w')
        | (at_builtin; refine wl_appB rfl _ _ rfl W.heap.size [] _ _ _ rfl OW0.out (some ⟨g, 0, none⟩) r.reverse cap r.length r.length LR.out (by simp) rfl TXR.out (by simp) (by omega) ?_; clear OW0 TXR; intro g5 c5 w5 hown5 hb5; rw [List.nil_append] at hown5; have HB5 : Hid (Below W.heap.size W w5) := hB0.trans hb5; have OW5 : Hid _ := hown5; clear hown5 hb5; have kt5 : w5.cell? ⟨g, r.length + 1, none⟩ = some (.string (M.bs t)) := (HB5.out.cell (p := ⟨g, r.length + 1, none⟩) hgb).trans kt; have ku5 : w5.cell? ⟨g, r.length, none⟩ = some (.string (M.bs u)) := (HB5.out.cell (p := ⟨g, r.length, none⟩) hgb).trans ku)
        | (at_builtin; refine wl_appB rfl _ _ rfl W.heap.size (r.reverse) _ _ _ rfl (World.ownsRow.alloc (w := w5) OW5.out _) (some ⟨w5.heap.size, 0, none⟩) [[49]] 1 1 (r.length + 1) rfl (by simp) rfl (tx_one _ _ _) (by have := HB5.out.size; simp; omega) (by omega) ?_; clear OW5; intro g6 c6 w6 hown hb; have OW6 : Hid _ := hown; have HB6 : Hid (Below W.heap.size W w6) := (HB5.out.alloc HB5.out.size _).trans hb; clear hown hb))
      go_ret3
      exact RP.ok HE.out (LS.of OW6.out (by simp) rfl) HB6.out
    · have OW0 : Hid _ := own0 W
      have kt := h.at (i := r.length + 1) (t := t) (by simp)
      have ku := h.at (i := r.length) (t := u) (by simp)
      have TXR : Hid (TX (W.alloc (.cells #[] 9)) (some ⟨g, 0, none⟩) r.reverse) := TX.belowM (TX.pre (m := [u, t]) (by have := h.t; simpa using this)) hB0
      have LR : Hid (r.reverse.length = r.length) := by show _ = _; simp
      have htl := hk.2 t (by simp)
      have hul := hk.2 u (by simp)
      have hst := M.bs_size t
      have hsu := M.bs_size u
      have hz2 : (r.length : Int) + 1 + 1 - 2 = (r.length : Int) := by omega
      simp only [List.length_cons] at hn8 hcap
      have hgb := h.b
      have HE : Hid (Q.act ins (t :: u :: r) [61] = (0, ([]) :: r)) := by show _ = _; rw [show Q.act ins (t :: u :: r) [61] = Q.put (r) (Q.cmp u t) by (unfold Q.act; simp [Q.change, Q.fold, Q.double])]; rw [show Q.cmp u t = [] by (unfold Q.cmp; rw [if_neg hb2])]; exact put0 (by first | omega | (simp; omega)) (by first | omega | assumption | (simp <;> omega))
      have hq : ((M.bs u).toList == (M.bs t).toList) = false := by rw [bs_eqM]; simpa using hb2
      generalize Q.act ins (t :: u :: r) [61] = R at *
      clear h hx2 hb2
      go_enter Tryd.func20, Tryd.ntmps20
      go_wp2_with (first
        | (go_at_call 28; refine (pop_61 _).mono ?_; rintro e w' ⟨rfl, hw⟩; rw [hw]; clear hw w')
        | (at_builtin; refine wl_appB rfl _ _ rfl W.heap.size [] _ _ _ rfl OW0.out (some ⟨g, 0, none⟩) r.reverse cap r.length r.length LR.out (by simp) rfl TXR.out (by simp) (by omega) ?_; clear OW0 TXR; intro g5 c5 w5 hown5 hb5; rw [List.nil_append] at hown5; have HB5 : Hid (Below W.heap.size W w5) := hB0.trans hb5; have OW5 : Hid _ := hown5; clear hown5 hb5; have kt5 : w5.cell? ⟨g, r.length + 1, none⟩ = some (.string (M.bs t)) := (HB5.out.cell (p := ⟨g, r.length + 1, none⟩) hgb).trans kt; have ku5 : w5.cell? ⟨g, r.length, none⟩ = some (.string (M.bs u)) := (HB5.out.cell (p := ⟨g, r.length, none⟩) hgb).trans ku)
        | (at_builtin; refine wl_appB rfl _ _ rfl W.heap.size (r.reverse) _ _ _ rfl (World.ownsRow.alloc (w := w5) OW5.out _) (some ⟨w5.heap.size, 0, none⟩) [[]] 1 1 (r.length + 1) rfl (by simp) rfl (tx_one _ _ _) (by have := HB5.out.size; simp; omega) (by omega) ?_; clear OW5; intro g6 c6 w6 hown hb; have OW6 : Hid _ := hown; have HB6 : Hid (Below W.heap.size W w6) := (HB5.out.alloc HB5.out.size _).trans hb; clear hown hb))
      go_ret3
      exact RP.ok HE.out (LS.of OW6.out (by simp) rfl) HB6.out
set_option maxRecDepth 8000 in
set_option maxHeartbeats 2000000 in
theorem rdo_s {W : World} (g cap : Nat) (st : List (List UInt8)) (a2 : Option Addr) (c2 : Nat) (ins : List (List UInt8)) (h : LS W g cap st) (hk : Q.Oks st) (hx2 : TX W a2 ins) (h4 : ins.length ≤ 4) (hil : ∀ t ∈ ins, t.length ≤ 512) :
    Calls Tryd.prog 20 #[.slice (some ⟨g, 0, none⟩) st.length cap, .string (M.bs [115]), .slice a2 ins.length c2] W fun e w' => RP (Q.act ins st [115]) (-1) W e w' := by
  have hn8 := hk.1
  have hcap := h.c
  have hB0 : Below W.heap.size W (W.alloc (.cells #[] 9)) := (Below.refl _ W).alloc (Nat.le_refl _) _
  have hsz : (M.bs [115]).size = 1 := M.bs_size _
  have hi := idx_0 [115] 115 rfl
  rcases st with _ | ⟨t, _ | ⟨u, r⟩⟩
  · have HE : Hid ((Q.act ins [] [115]).1 = 31) := by show _ = _; rfl
    have HB : Hid (Below W.heap.size W W) := Below.refl _ _
    clear h hx2 hil hB0
    generalize Q.act ins [] [115] = R at *
    go_enter Tryd.func20, Tryd.ntmps20
    go_wp2_with (first | (go_at_call 28; refine (pop_115 _).mono ?_; rintro e w' ⟨rfl, hw⟩; rw [hw]; clear hw w'))
    go_ret3
    exact RP.err HE.out (by decide) HB.out
  · have HE : Hid ((Q.act ins [t] [115]).1 = 31) := by show _ = _; rfl
    have HB : Hid (Below W.heap.size W W) := Below.refl _ _
    clear h hx2 hil hB0
    generalize Q.act ins [t] [115] = R at *
    go_enter Tryd.func20, Tryd.ntmps20
    go_wp2_with (first | (go_at_call 28; refine (pop_115 _).mono ?_; rintro e w' ⟨rfl, hw⟩; rw [hw]; clear hw w'))
    go_ret3
    exact RP.err HE.out (by decide) HB.out
  · have OW0 : Hid _ := own0 W
    have kt := h.at (i := r.length + 1) (t := t) (by simp)
    have ku := h.at (i := r.length) (t := u) (by simp)
    have TXR : Hid (TX (W.alloc (.cells #[] 9)) (some ⟨g, 0, none⟩) r.reverse) := TX.belowM (TX.pre (m := [u, t]) (by have := h.t; simpa using this)) hB0
    have LR : Hid (r.reverse.length = r.length) := by show _ = _; simp
    have htl := hk.2 t (by simp)
    have hul := hk.2 u (by simp)
    have hst := M.bs_size t
    have hsu := M.bs_size u
    have hz2 : (r.length : Int) + 1 + 1 - 2 = (r.length : Int) := by omega
    simp only [List.length_cons] at hn8 hcap
    have hgb := h.b
    have HE : Hid (Q.act ins (t :: u :: r) [115] = (0, u :: t :: r)) := by show _ = _; rfl
    generalize Q.act ins (t :: u :: r) [115] = R at *
    clear h hx2
    go_enter Tryd.func20, Tryd.ntmps20
    go_wp2_with (first
      | (go_at_call 28; refine (pop_115 _).mono ?_; rintro e w' ⟨rfl, hw⟩; rw [hw]; clear hw w')
      | (at_builtin; refine wl_appB rfl _ _ rfl W.heap.size [] _ _ _ rfl OW0.out (some ⟨g, 0, none⟩) r.reverse cap r.length r.length LR.out (by simp) rfl TXR.out (by simp) (by omega) ?_; clear OW0 TXR; intro g5 c5 w5 hown5 hb5; rw [List.nil_append] at hown5; have HB5 : Hid (Below W.heap.size W w5) := hB0.trans hb5; have OW5 : Hid _ := hown5; clear hown5 hb5; have kt5 : w5.cell? ⟨g, r.length + 1, none⟩ = some (.string (M.bs t)) := (HB5.out.cell (p := ⟨g, r.length + 1, none⟩) hgb).trans kt; have ku5 : w5.cell? ⟨g, r.length, none⟩ = some (.string (M.bs u)) := (HB5.out.cell (p := ⟨g, r.length, none⟩) hgb).trans ku)
      | (at_builtin; refine wl_appB rfl _ _ rfl W.heap.size (r.reverse) _ _ _ rfl (World.ownsRow.alloc (w := w5) OW5.out _) (some ⟨w5.heap.size, 0, none⟩) [t] 1 1 (r.length + 1) rfl (by simp) rfl (tx_one _ _ _) (by have := HB5.out.size; simp; omega) (by omega) ?_; clear OW5; intro g6 c6 w6 hown hb; have OW6 : Hid _ := hown; have HB6 : Hid (Below W.heap.size W w6) := (HB5.out.alloc HB5.out.size _).trans hb; clear hown hb)
      | (at_builtin; refine wl_appB rfl _ _ rfl W.heap.size (r.reverse ++ [t]) _ _ _ rfl (World.ownsRow.alloc (w := w6) OW6.out _) (some ⟨w6.heap.size, 0, none⟩) [u] 1 1 (r.length + 2) rfl (by simp) rfl (tx_one _ _ _) (by have := HB6.out.size; simp; omega) (by omega) ?_; clear OW6; intro g7 c7 w7 hown hb; have OW7 : Hid _ := hown; have HB7 : Hid (Below W.heap.size W w7) := (HB6.out.alloc HB6.out.size _).trans hb; clear hown hb))
    go_ret3
    exact RP.ok HE.out (LS.of OW7.out (by simp) rfl) HB7.out
set_option maxRecDepth 8000 in
set_option maxHeartbeats 2000000 in
theorem rdo_p {W : World} (g cap : Nat) (st : List (List UInt8)) (a2 : Option Addr) (c2 : Nat) (ins : List (List UInt8)) (h : LS W g cap st) (hk : Q.Oks st) (hx2 : TX W a2 ins) (h4 : ins.length ≤ 4) (hil : ∀ t ∈ ins, t.length ≤ 512) (x : UInt8) (r : List UInt8) (hr : r.length ≤ 100) :
    Calls Tryd.prog 20 #[.slice (some ⟨g, 0, none⟩) st.length cap, .string (M.bs (112 :: x :: r)), .slice a2 ins.length c2] W fun e w' => RP (Q.act ins st (112 :: x :: r)) (-1) W e w' := by
  have hn8 := hk.1
  have hcap := h.c
  have hB0 : Below W.heap.size W (W.alloc (.cells #[] 9)) := (Below.refl _ W).alloc (Nat.le_refl _) _
  have hsz : (M.bs (112 :: x :: r)).size = (r.length + 2) := M.bs_size _
  have hi := idx_0 (112 :: x :: r) 112 rfl
  have hi1 := idx_1 (112 :: x :: r) x rfl
  have hx8 := x.toNat_lt
  by_cases hb2 : 8 ≤ st.length
  · have HE : Hid ((Q.act ins st (112 :: x :: r)).1 = 31) := by show _ = _; rw [show Q.act ins st (112 :: x :: r) = Q.put st r by (unfold Q.act; simp)]; exact put31 hb2
    have HB : Hid (Below W.heap.size W W) := Below.refl _ _
    clear h hx2 hil hB0
    generalize Q.act ins st (112 :: x :: r) = R at *
    go_enter Tryd.func20, Tryd.ntmps20
    go_wp2_with (first | (go_at_call 28; refine (pop_112 _).mono ?_; rintro e w' ⟨rfl, hw⟩; rw [hw]; clear hw w'))
    go_ret3
    exact RP.err HE.out (by decide) HB.out
  · have OW0 : Hid _ := own0 W
    have TXR : Hid (TX (W.alloc (.cells #[] 9)) (some ⟨g, 0, none⟩) st.reverse) := TX.belowM h.t hB0
    have LR : Hid (st.reverse.length = st.length) := by show _ = _; simp
    have hgb := h.b
    have HE : Hid (Q.act ins (st) (112 :: x :: r) = (0, (r) :: st)) := by show _ = _; rw [show Q.act ins (st) (112 :: x :: r) = Q.put (st) (r) by (unfold Q.act; simp [Q.change, Q.fold, Q.double])]; exact put0 (by first | omega | (simp; omega)) (by first | omega | assumption | (simp <;> omega))
    have hsr := M.bs_size r
    have hex : (M.bs (112 :: x :: r)).extract 2 (r.length + 2) = M.bs r := by
      have := drop_bs (112 :: x :: r) 2
      rw [hsz] at this
      exact this
    generalize Q.act ins (st) (112 :: x :: r) = R at *
    clear h hx2
    generalize M.bs (112 :: x :: r) = bsx at *
    go_enter Tryd.func20, Tryd.ntmps20
    go_wp2_with (first
      | (go_at_call 28; refine (pop_112 _).mono ?_; rintro e w' ⟨rfl, hw⟩; rw [hw]; clear hw w')
      | (at_builtin; refine wl_appB rfl _ _ rfl W.heap.size [] _ _ _ rfl OW0.out (some ⟨g, 0, none⟩) st.reverse cap st.length st.length LR.out (by simp) rfl TXR.out (by simp) (by omega) ?_; clear OW0 TXR; intro g5 c5 w5 hown5 hb5; rw [List.nil_append] at hown5; have HB5 : Hid (Below W.heap.size W w5) := hB0.trans hb5; have OW5 : Hid _ := hown5; clear hown5 hb5)
      | (at_builtin; refine wl_appB rfl _ _ rfl W.heap.size (st.reverse) _ _ _ rfl (World.ownsRow.alloc (w := w5) OW5.out _) (some ⟨w5.heap.size, 0, none⟩) [r] 1 1 (st.length + 1) rfl (by simp) rfl (tx_one _ _ _) (by have := HB5.out.size; simp; omega) (by omega) ?_; clear OW5; intro g6 c6 w6 hown hb; have OW6 : Hid _ := hown; have HB6 : Hid (Below W.heap.size W w6) := (HB5.out.alloc HB5.out.size _).trans hb; clear hown hb))
    go_ret3
    exact RP.ok HE.out (LS.of OW6.out (by simp) rfl) HB6.out
set_option maxRecDepth 8000 in
set_option maxHeartbeats 2000000 in
theorem rdo_g {W : World} (g cap : Nat) (st : List (List UInt8)) (a2 : Option Addr) (c2 : Nat) (ins : List (List UInt8)) (h : LS W g cap st) (hk : Q.Oks st) (hx2 : TX W a2 ins) (h4 : ins.length ≤ 4) (hil : ∀ t ∈ ins, t.length ≤ 512) (x : UInt8) :
    Calls Tryd.prog 20 #[.slice (some ⟨g, 0, none⟩) st.length cap, .string (M.bs [103, x]), .slice a2 ins.length c2] W fun e w' => RP (Q.act ins st [103, x]) ((x.toNat : Int)) W e w' := by
  have hn8 := hk.1
  have hcap := h.c
  have hB0 : Below W.heap.size W (W.alloc (.cells #[] 9)) := (Below.refl _ W).alloc (Nat.le_refl _) _
  have hsz : (M.bs [103, x]).size = 2 := M.bs_size _
  have hi := idx_0 [103, x] 103 rfl
  have hi1 := idx_1 [103, x] x rfl
  have hx8 := x.toNat_lt
  have OW0 : Hid _ := own0 W
  have TXR : Hid (TX (W.alloc (.cells #[] 9)) (some ⟨g, 0, none⟩) st.reverse) := TX.belowM h.t hB0
  have LR : Hid (st.reverse.length = st.length) := by show _ = _; simp
  have hgb := h.b
  have HE : Hid (Q.act ins (st) [103, x] = (0, st)) := by show _ = _; rfl
  generalize Q.act ins (st) [103, x] = R at *
  clear h hx2
  go_enter Tryd.func20, Tryd.ntmps20
  go_wp2_with (first
    | (go_at_call 28; refine (pop_103 _).mono ?_; rintro e w' ⟨rfl, hw⟩; rw [hw]; clear hw w')
    | (at_builtin; refine wl_appB rfl _ _ rfl W.heap.size [] _ _ _ rfl OW0.out (some ⟨g, 0, none⟩) st.reverse cap st.length st.length LR.out (by simp) rfl TXR.out (by simp) (by omega) ?_; clear OW0 TXR; intro g5 c5 w5 hown5 hb5; rw [List.nil_append] at hown5; have HB5 : Hid (Below W.heap.size W w5) := hB0.trans hb5; have OW5 : Hid _ := hown5; clear hown5 hb5))
  go_ret3
  exact RP.ok HE.out (LS.of OW5.out rfl rfl) HB5.out
set_option maxRecDepth 8000 in
set_option maxHeartbeats 2000000 in
theorem rdo_i {W : World} (g cap : Nat) (st : List (List UInt8)) (a2 : Option Addr) (c2 : Nat) (ins : List (List UInt8)) (h : LS W g cap st) (hk : Q.Oks st) (hx2 : TX W a2 ins) (h4 : ins.length ≤ 4) (hil : ∀ t ∈ ins, t.length ≤ 512) (x : UInt8) :
    Calls Tryd.prog 20 #[.slice (some ⟨g, 0, none⟩) st.length cap, .string (M.bs [105, x]), .slice a2 ins.length c2] W fun e w' => RP (Q.act ins st [105, x]) (-1) W e w' := by
  have hn8 := hk.1
  have hcap := h.c
  have hB0 : Below W.heap.size W (W.alloc (.cells #[] 9)) := (Below.refl _ W).alloc (Nat.le_refl _) _
  have hsz : (M.bs [105, x]).size = 2 := M.bs_size _
  have hi := idx_0 [105, x] 105 rfl
  have hi1 := idx_1 [105, x] x rfl
  have hx8 := x.toNat_lt
  by_cases hb2 : ins.length ≤ x.toNat
  · have HE : Hid ((Q.act ins st [105, x]).1 = 32) := by show _ = _; unfold Q.act; simp [hb2]
    have HB : Hid (Below W.heap.size W W) := Below.refl _ _
    have q1 : (ins.length : Int) ≤ (x.toNat : Int) := by omega
    clear h hx2 hil hB0
    generalize Q.act ins st [105, x] = R at *
    go_enter Tryd.func20, Tryd.ntmps20
    go_wp2_with fail
    go_ret3
    exact RP.err HE.out (by decide) HB.out
  · by_cases hb2 : 8 ≤ st.length
    · have q1 : ¬ (ins.length : Int) ≤ (x.toNat : Int) := by omega
      have HE : Hid ((Q.act ins st [105, x]).1 = 31) := by show _ = _; rw [show Q.act ins st [105, x] = Q.put st (ins.getD x.toNat []) by (unfold Q.act; simp; intro q; omega)]; exact put31 (by assumption)
      have HB : Hid (Below W.heap.size W W) := Below.refl _ _
      clear h hx2 hil hB0
      generalize Q.act ins st [105, x] = R at *
      go_enter Tryd.func20, Tryd.ntmps20
      go_wp2_with (first | (go_at_call 28; refine (pop_105 _).mono ?_; rintro e w' ⟨rfl, hw⟩; rw [hw]; clear hw w'))
      go_ret3
      exact RP.err HE.out (by decide) HB.out
    · have q1 : ¬ (ins.length : Int) ≤ (x.toNat : Int) := by omega
      obtain ⟨y, hy⟩ : ∃ y, ins[x.toNat]? = some y := ⟨ins[x.toNat]'(by omega), List.getElem?_eq_getElem (by omega)⟩
      have hyl := hil y (List.mem_of_getElem? hy)
      have hsy := M.bs_size y
      have hgy : ins.getD x.toNat [] = y := by rw [List.getD_eq_getElem?_getD, hy]; rfl
      obtain ⟨sb, off, rfl, hsb, hyc⟩ := hx2 x.toNat y hy
      have OW0 : Hid _ := own0 W
      have TXR : Hid (TX (W.alloc (.cells #[] 9)) (some ⟨g, 0, none⟩) st.reverse) := TX.belowM h.t hB0
      have LR : Hid (st.reverse.length = st.length) := by show _ = _; simp
      have hgb := h.b
      have HE : Hid (Q.act ins (st) [105, x] = (0, (y) :: st)) := by show _ = _; rw [show Q.act ins st [105, x] = Q.put st (ins.getD x.toNat []) by (unfold Q.act; simp; intro q; omega), hgy]; exact put0 (by omega) hyl
      generalize Q.act ins (st) [105, x] = R at *
      clear h hx2 hy hgy
      go_enter Tryd.func20, Tryd.ntmps20
      go_wp2_with (first
        | (go_at_call 28; refine (pop_105 _).mono ?_; rintro e w' ⟨rfl, hw⟩; rw [hw]; clear hw w')
        | (at_builtin; refine wl_appB rfl _ _ rfl W.heap.size [] _ _ _ rfl OW0.out (some ⟨g, 0, none⟩) st.reverse cap st.length st.length LR.out (by simp) rfl TXR.out (by simp) (by omega) ?_; clear OW0 TXR; intro g5 c5 w5 hown5 hb5; rw [List.nil_append] at hown5; have HB5 : Hid (Below W.heap.size W w5) := hB0.trans hb5; have OW5 : Hid _ := hown5; have ky5 : w5.cell? ⟨sb, off + x.toNat, none⟩ = some (.string (M.bs y)) := (HB5.out.cell (p := ⟨sb, off + x.toNat, none⟩) hsb).trans hyc; clear hown5 hb5)
        | (at_builtin; refine wl_appB rfl _ _ rfl W.heap.size (st.reverse) _ _ _ rfl (World.ownsRow.alloc (w := w5) OW5.out _) (some ⟨w5.heap.size, 0, none⟩) [y] 1 1 (st.length + 1) rfl (by simp) rfl (tx_one _ _ _) (by have := HB5.out.size; simp; omega) (by omega) ?_; clear OW5; intro g6 c6 w6 hown hb; have OW6 : Hid _ := hown; have HB6 : Hid (Below W.heap.size W w6) := (HB5.out.alloc HB5.out.size _).trans hb; clear hown hb))
      go_ret3
      exact RP.ok HE.out (LS.of OW6.out (by simp) rfl) HB6.out
set_option maxRecDepth 8000 in
set_option maxHeartbeats 2000000 in
theorem rdo_r {W : World} (g cap : Nat) (st : List (List UInt8)) (a2 : Option Addr) (c2 : Nat) (ins : List (List UInt8)) (h : LS W g cap st) (hk : Q.Oks st) (hx2 : TX W a2 ins) (h4 : ins.length ≤ 4) (hil : ∀ t ∈ ins, t.length ≤ 512) :
    Calls Tryd.prog 20 #[.slice (some ⟨g, 0, none⟩) st.length cap, .string (M.bs [114]), .slice a2 ins.length c2] W fun e w' => RP (Q.act ins st [114]) (-1) W e w' := by
  have hn8 := hk.1
  have hcap := h.c
  have hB0 : Below W.heap.size W (W.alloc (.cells #[] 9)) := (Below.refl _ W).alloc (Nat.le_refl _) _
  have hsz : (M.bs [114]).size = 1 := M.bs_size _
  have hi := idx_0 [114] 114 rfl
  rcases st with _ | ⟨t, r⟩
  · have HE : Hid ((Q.act ins [] [114]).1 = 31) := by show _ = _; rfl
    have HB : Hid (Below W.heap.size W W) := Below.refl _ _
    clear h hx2 hil hB0
    generalize Q.act ins [] [114] = R at *
    go_enter Tryd.func20, Tryd.ntmps20
    go_wp2_with (first | (go_at_call 28; refine (pop_114 _).mono ?_; rintro e w' ⟨rfl, hw⟩; rw [hw]; clear hw w'))
    go_ret3
    exact RP.err HE.out (by decide) HB.out
  · have OW0 : Hid _ := own0 W
    have kt := h.at (i := r.length) (t := t) (by simp)
    have TXR : Hid (TX (W.alloc (.cells #[] 9)) (some ⟨g, 0, none⟩) r.reverse) := TX.belowM (TX.pre (m := [t]) (by have := h.t; simpa using this)) hB0
    have LR : Hid (r.reverse.length = r.length) := by show _ = _; simp
    have htl := hk.2 t (by simp)
    have hst := M.bs_size t
    simp only [List.length_cons] at hn8 hcap
    have hgb := h.b
    have HE : Hid (Q.act ins (t :: r) [114] = (0, t.reverse :: r)) := by show _ = _; rw [show Q.act ins (t :: r) [114] = Q.put r t.reverse by (unfold Q.act; simp [Q.change])]; exact put0 (by omega) (by rw [List.length_reverse]; omega)
    have HR0 : Hid (M.bs (t.take 0).reverse = ⟨#[]⟩) := by show _ = _; simp; rfl
    have HRA : Hid (M.bs (t.take t.length).reverse = M.bs t.reverse) := by show _ = _; rw [List.take_of_length_le (Nat.le_refl _)]
    generalize Q.act ins (t :: r) [114] = R at *
    clear h hx2
    go_enter Tryd.func20, Tryd.ntmps20
    go_wp2_with (first
      | (go_at_call 28; refine (pop_114 _).mono ?_; rintro e w' ⟨rfl, hw⟩; rw [hw]; clear hw w')
      | (at_builtin; refine wl_appB rfl _ _ rfl W.heap.size [] _ _ _ rfl OW0.out (some ⟨g, 0, none⟩) r.reverse cap r.length r.length LR.out (by simp) rfl TXR.out (by simp) (by omega) ?_; clear OW0 TXR; intro g5 c5 w5 hown5 hb5; rw [List.nil_append] at hown5; have HB5 : Hid (Below W.heap.size W w5) := hB0.trans hb5; have OW5 : Hid _ := hown5; clear hown5 hb5; have kt5 : w5.cell? ⟨g, r.length, none⟩ = some (.string (M.bs t)) := (HB5.out.cell (p := ⟨g, r.length, none⟩) hgb).trans kt))
    go_loopw [17, 18] (fun u17 u18 wr => ∃ k : Nat, k ≤ t.length ∧ u17 = .string (M.bs (t.take k).reverse) ∧ u18 = .int .i64 (k : Int) ∧ w5 = wr) (fun _ u18 _ => t.length - (intOf u18).toNat)
    case atStart => exact ⟨0, Nat.zero_le _, by rw [HR0.out], rfl, rfl⟩
    case round =>
      obtain ⟨k, hkl, rfl, rfl, rfl⟩ := hrel
      by_cases hlt : k < t.length
      · obtain ⟨x, hx⟩ : ∃ x, t[k]? = some x := ⟨t[k], List.getElem?_eq_getElem hlt⟩
        have hcut := cut_one t k x hx
        have hrs : M.bs [x] ++ M.bs (t.take k).reverse = M.bs (t.take (k + 1)).reverse := by rw [rev_succ t k x hx]; exact bs_append _ _
        have s1 : (M.bs [x]).size = 1 := M.bs_size _
        have s2 : (M.bs (t.take k).reverse).size = k := by rw [M.bs_size]; simp; omega
        have i1 : (k : Int) < (t.length : Int) := by omega
        clear hx HR0 HRA
        generalize M.bs (t.take k).reverse = P at *
        go_wp2_with fail
        go_roundw
        case rel => exact ⟨k + 1, by omega, by rfl, by go_num, by first | exact trivial | rfl⟩
        case measure => simp [intOf]; omega
      · obtain rfl : k = t.length := by omega
        rw [HRA.out]
        have hsv := M.bs_size t.reverse
        rw [List.length_reverse] at hsv
        clear HRA HR0 hkl hlt
        generalize t.reverse = tr at *
        go_wp2_with (first | (at_builtin; refine wl_appB rfl _ _ rfl W.heap.size (r.reverse) _ _ _ rfl (World.ownsRow.alloc (w := w5) OW5.out _) (some ⟨w5.heap.size, 0, none⟩) [tr] 1 1 (r.length + 1) rfl (by simp) rfl (tx_one _ _ _) (by have := HB5.out.size; simp; omega) (by omega) ?_; clear OW5; intro g6 c6 w6 hown hb; have OW6 : Hid _ := hown; have HB6 : Hid (Below W.heap.size W w6) := (HB5.out.alloc HB5.out.size _).trans hb; clear hown hb))
        go_ret3
        exact RP.ok HE.out (LS.of OW6.out (by simp) rfl) HB6.out
end Go.Proofs.YtodcafmhaleemaaDoor
/- What the reference's Run answers. -/
namespace Go.Proofs.YtodcafmhaleemaaDoor
open Go.RowKit
set_option linter.unusedVariables false
set_option linter.unusedSimpArgs false

/-- where the reference's step says that it goes on; -1: behind it -/
def toR (st : List (List UInt8)) (s : List UInt8) : Int := if s.getD 0 0 = 103 then ((s.getD 1 0).toNat : Int) else if s.getD 0 0 = 106 then (if Q.isE st then ((s.getD 1 0).toNat : Int) else -1) else -1
theorem toR_next (m : Q.Ms) (s : List UInt8) : (Q.next m s : Int) = if 0 ≤ toR m.st s then toR m.st s else (m.place : Int) + (s.length : Int) := by
  unfold Q.next toR
  by_cases h1 : s.getD 0 0 = 103
  · rw [if_pos h1, if_pos h1, if_pos (by omega)]
  · rw [if_neg h1, if_neg h1]
    by_cases h2 : s.getD 0 0 = 106
    · rw [if_pos h2, if_pos h2]
      by_cases h3 : Q.isE m.st = true
      · rw [if_pos h3, if_pos h3, if_pos (by omega)]
      · rw [if_neg h3, if_neg h3, if_neg (by omega)]; omega
    · rw [if_neg h2, if_neg h2, if_neg (by omega)]; omega
theorem toR_le (st : List (List UInt8)) (s : List UInt8) : toR st s ≤ 255 ∧ -1 ≤ toR st s := by
  have := (s.getD 1 0).toNat_lt
  unfold toR
  repeat' split
  all_goals omega
theorem rdo_at {W : World} (g cap : Nat) (st : List (List UInt8)) (a2 : Option Addr) (c2 : Nat) (ins : List (List UInt8)) (h : LS W g cap st) (hk : Q.Oks st) (hx2 : TX W a2 ins) (h4 : ins.length ≤ 4) (hil : ∀ t ∈ ins, t.length ≤ 512) (code s : List UInt8) (p : Nat) (hs : Q.stepAt code p = some s) (hc : code.length ≤ 64) :
    Calls Tryd.prog 20 #[.slice (some ⟨g, 0, none⟩) st.length cap, .string (M.bs s), .slice a2 ins.length c2] W fun e w' => RP (Q.act ins st s) (toR st s) W e w' := by
  have hl := (Q.first_some hs).2.1
  rw [List.length_drop] at hl
  rcases Q.first_form hs with ⟨x, rfl, hx⟩ | ⟨x, d, rfl, hx⟩ | ⟨d, r, rfl⟩
  · have hx' : x = 99 ∨ x = 100 ∨ x = 115 ∨ x = 120 ∨ x = 114 ∨ x = 104 ∨ x = 108 ∨ x = 61 := by simpa [Q.one, or_assoc] using hx
    rcases hx' with rfl | rfl | rfl | rfl | rfl | rfl | rfl | rfl
    · exact rdo_c g cap st a2 c2 ins h hk hx2 h4 hil
    · exact rdo_d g cap st a2 c2 ins h hk hx2 h4 hil
    · exact rdo_s g cap st a2 c2 ins h hk hx2 h4 hil
    · exact rdo_x g cap st a2 c2 ins h hk hx2 h4 hil
    · exact rdo_r g cap st a2 c2 ins h hk hx2 h4 hil
    · exact rdo_h g cap st a2 c2 ins h hk hx2 h4 hil
    · exact rdo_l g cap st a2 c2 ins h hk hx2 h4 hil
    · exact rdo_e g cap st a2 c2 ins h hk hx2 h4 hil
  · have hx' : x = 105 ∨ x = 116 ∨ x = 107 ∨ x = 106 ∨ x = 103 := by simpa [Q.two, or_assoc] using hx
    rcases hx' with rfl | rfl | rfl | rfl | rfl
    · exact rdo_i g cap st a2 c2 ins h hk hx2 h4 hil d
    · exact rdo_t g cap st a2 c2 ins h hk hx2 h4 hil d
    · exact rdo_k g cap st a2 c2 ins h hk hx2 h4 hil d
    · exact rdo_j g cap st a2 c2 ins h hk hx2 h4 hil d
    · exact rdo_g g cap st a2 c2 ins h hk hx2 h4 hil d
  · exact rdo_p g cap st a2 c2 ins h hk hx2 h4 hil d r (by simp at hl; omega)

/-- none of the first k texts is too long -/
def ShR (l : List (List UInt8)) (k : Nat) : Prop := ∀ (j : Nat) t, j < k → l[j]? = some t → ¬ 512 < t.length
set_option maxRecDepth 8000 in
set_option maxHeartbeats 2000000 in
theorem rRun_long (code : List UInt8) (ins : List (List UInt8)) (a : Option Addr) (c : Nat) (W : World) (h : 64 < code.length ∨ 4 < ins.length) (hl : code.length ≤ 9223372036854775807) (hn : ins.length ≤ 9223372036854775807) :
    Calls Tryd.prog 11 #[.string (M.bs code), .slice a ins.length c] W fun e w' => e = .returned (runV ⟨4, [], 0⟩) ∧ Below W.heap.size W w' := by
  have hs := M.bs_size code
  obtain ⟨fs, hum⟩ := undRes
  have HB : Hid (∀ o, Below W.heap.size W (W.alloc o)) := fun o => (Below.refl _ W).alloc (Nat.le_refl _) _
  by_cases h1 : 64 < code.length
  · clear h
    go_enter Tryd.func11, Tryd.ntmps11
    go_wp2_with fail
    go_loopw [6, 7] (fun u6 u7 wr => u6 = .bool true ∧ u7 = .int .i64 0 ∧ W.alloc (.cells #[.int .i64 0, .string ⟨#[]⟩] 26) = wr) (fun _ _ _ => 0)
    case atStart => exact ⟨by first | rfl | (congr 1), rfl, rfl⟩
    case round =>
      obtain ⟨rfl, rfl, rfl⟩ := hrel
      by_cases h0 : 0 < ins.length
      · go_wp2_with fail
        refine bodyPost_ret (results2_rowM rfl _ _ W.heap.size 26 _ (0, 0) _ rfl (heap_alloc_new _ _) hum rfl infoRes) rfl ?_
        exact ⟨rfl, HB.out _⟩
      · go_wp2_with fail
        refine bodyPost_ret (results2_rowM rfl _ _ W.heap.size 26 _ (0, 0) _ rfl (heap_alloc_new _ _) hum rfl infoRes) rfl ?_
        exact ⟨rfl, HB.out _⟩
  · have h2 : 4 < ins.length := by omega
    clear h
    have HD : Hid ((decide ((64 : Int) < (code.length : Int)) || decide ((4 : Int) < (ins.length : Int))) = true) := by show _ = _; rw [decide_eq_true (p := (4 : Int) < (ins.length : Int)) (by omega)]; simp
    go_enter Tryd.func11, Tryd.ntmps11
    go_wp2_with fail
    go_loopw [6, 7] (fun u6 u7 wr => u6 = .bool true ∧ u7 = .int .i64 0 ∧ W.alloc (.cells #[.int .i64 0, .string ⟨#[]⟩] 26) = wr) (fun _ _ _ => 0)
    case atStart => exact ⟨by rw [HD.out], rfl, rfl⟩
    case round =>
      obtain ⟨rfl, rfl, rfl⟩ := hrel
      by_cases h0 : 0 < ins.length
      · go_wp2_with fail
        refine bodyPost_ret (results2_rowM rfl _ _ W.heap.size 26 _ (0, 0) _ rfl (heap_alloc_new _ _) hum rfl infoRes) rfl ?_
        exact ⟨rfl, HB.out _⟩
      · omega
set_option maxRecDepth 8000 in
set_option maxHeartbeats 8000000 in
theorem rRun_at (code : List UInt8) (ins : List (List UInt8)) (a : Option Addr) (c : Nat) (W : World) (hx : TX W a ins) (hc : code.length ≤ 64) (h4 : ins.length ≤ 4) (hil : ∀ t ∈ ins, t.length ≤ 9223372036854775807) :
    Calls Tryd.prog 11 #[.string (M.bs code), .slice a ins.length c] W fun e w' => e = .returned (runV (Q.run code ins)) ∧ Below W.heap.size W w' := by
  have hs := M.bs_size code
  obtain ⟨fs, hum⟩ := undRes
  have HB : Hid (∀ o, Below W.heap.size W (W.alloc o)) := fun o => (Below.refl _ W).alloc (Nat.le_refl _) _
  have HTX : Hid (TX (W.alloc (.cells #[.int .i64 0, .string ⟨#[]⟩] 26)) a ins) := hx.belowM ((Below.refl _ W).alloc (Nat.le_refl _) _)
  have HIL : Hid (∀ t ∈ ins, t.length ≤ 9223372036854775807) := hil
  have HRW : Hid (wideM ins = true → Q.run code ins = ⟨4, [], 0⟩) := fun h => by unfold Q.run; rw [if_pos (Or.inr (Or.inr (show (ins.any fun t => decide (512 < t.length)) = true from h)))]
  have HRN : Hid (ShR ins ins.length → Q.run code ins = Q.runF code ins 301 ⟨[], 0, 0⟩ ∧ ∀ t ∈ ins, t.length ≤ 512) := fun h => by
    have h3 : wideM ins = false := wideM_none h
    constructor
    · unfold Q.run
      rw [if_neg]
      rintro (h | h | h)
      · omega
      · omega
      · unfold wideM at h3; rw [h] at h3; cases h3
    · intro t ht
      obtain ⟨j, hj, e⟩ := List.getElem_of_mem ht
      have := h j t hj (by rw [← e]; exact List.getElem?_eq_getElem hj)
      omega
  clear hx hil
  generalize Q.run code ins = R at *
  go_enter Tryd.func11, Tryd.ntmps11
  go_wp2_with fail
  go_loopw [6, 7] (fun u6 u7 wr => ∃ (k : Nat) (q : Bool), k ≤ ins.length ∧ u6 = .bool q ∧ u7 = .int .i64 (k : Int) ∧ W.alloc (.cells #[.int .i64 0, .string ⟨#[]⟩] 26) = wr ∧ (q = false → ShR ins k) ∧ (q = true → wideM ins = true)) (fun _ u7 _ => ins.length - (intOf u7).toNat)
  case atStart =>
    refine ⟨0, false, Nat.zero_le _, ?_, rfl, rfl, fun _ j t hj => by omega, fun h => by cases h⟩
    rw [decide_eq_false (by omega), decide_eq_false (by omega)]; rfl
  case round =>
    obtain ⟨k, q, hk, rfl, rfl, rfl, hsh, hwd⟩ := hrel
    cases q with
    | true =>
      have HW : Hid (R = ⟨4, [], 0⟩) := HRW.out (hwd rfl)
      clear hsh hwd HRW HRN HTX HIL
      by_cases hlt : k < ins.length
      · go_wp2_with fail
        refine bodyPost_ret (results2_rowM rfl _ _ W.heap.size 26 _ (0, 0) _ rfl (heap_alloc_new _ _) hum rfl infoRes) rfl ?_
        exact ⟨by rw [HW.out]; rfl, HB.out _⟩
      · go_wp2_with fail
        refine bodyPost_ret (results2_rowM rfl _ _ W.heap.size 26 _ (0, 0) _ rfl (heap_alloc_new _ _) hum rfl infoRes) rfl ?_
        exact ⟨by rw [HW.out]; rfl, HB.out _⟩
    | false =>
      have HSH : Hid (ShR ins k) := hsh rfl
      clear hsh hwd
      by_cases hlt : k < ins.length
      · obtain ⟨t, ht⟩ : ∃ t, ins[k]? = some t := ⟨ins[k], List.getElem?_eq_getElem hlt⟩
        obtain ⟨sb, off, rfl, hsb, hcell⟩ := HTX.out k t ht
        have i0 : (0 : Int) ≤ (k : Int) := by omega
        have i1 : (k : Int) < (ins.length : Int) := by omega
        have htl := HIL.out t (List.mem_of_getElem? ht)
        have hst := M.bs_size t
        have HN : Hid ((decide ((512 : Int) < (t.length : Int)) = false → ShR ins (k + 1)) ∧ (decide ((512 : Int) < (t.length : Int)) = true → wideM ins = true)) := ⟨fun h j s hj hs' => by
          rcases (by omega : j < k ∨ j = k) with h' | rfl
          · exact HSH.out j s h' hs'
          · rw [ht] at hs'; cases hs'; have := of_decide_eq_false h; omega, fun h => wideM_at ht (by have := of_decide_eq_true h; omega)⟩
        obtain ⟨q, hq⟩ : ∃ q, decide ((512 : Int) < (t.length : Int)) = q := ⟨_, rfl⟩
        rw [hq] at HN
        clear ht HRW HRN HTX HIL
        go_wp2_with fail
        go_roundw
        case rel => exact ⟨k + 1, q, by omega, (by rfl), by go_num, by first | exact trivial | rfl, HN.out.1, HN.out.2⟩
        case measure => simp [intOf]; omega
      · obtain rfl : k = ins.length := by omega
        obtain ⟨hR, hi5⟩ := HRN.out HSH.out
        clear HRW HRN HSH HIL hlt hk
        go_wp2_with fail
        have HZ : Hid (∀ W', Below (W.heap.size + 1) (W.alloc (.cells #[.int .i64 0, .string ⟨#[]⟩] 26)) W' → W'.heap[W.heap.size]? = some (.cells #[.int .i64 0, .string ⟨#[]⟩] 26 (0, 0))) := fun W' h => by rw [h.block _ (by omega)]; exact heap_alloc_new _ _
        have HFB0 : Hid (∀ W', Below (W.heap.size + 1) (W.alloc (.cells #[.int .i64 0, .string ⟨#[]⟩] 26)) W' → ∀ u v, Below W.heap.size W ((W'.setCell ⟨W.heap.size, 0, none⟩ u).setCell ⟨W.heap.size, 1, none⟩ v)) := fun W' h u v => (((HB.out _).trans (h.mono (by omega))).setCell (Nat.le_refl _) _).setCell (Nat.le_refl _) _
        have HS1 : Hid ((W.alloc (.cells #[.int .i64 0, .string ⟨#[]⟩] 26)).heap.size = W.heap.size + 1) := by show _ = _; simp
        clear HB
        generalize W.alloc (.cells #[.int .i64 0, .string ⟨#[]⟩] 26) = W1 at *
        have HL0 : Hid (∀ N, N = W.heap.size + 1 → LS (W1.alloc (.cells #[] 9)) N 0 []) := fun N hN => by
          have := own0 W1
          rw [HS1.out, ← hN] at this
          exact LS.of this rfl rfl
        have HB1 : Hid (Below (W.heap.size + 1) W1 (W1.alloc (.cells #[] 9))) := (Below.refl _ W1).alloc (by rw [HS1.out]; omega) _
        have HGE : Hid (∀ W', Below (W.heap.size + 1) W1 W' → W.heap.size + 1 ≤ W'.heap.size) := fun W' h => by have := h.size; have := HS1.out; omega
        have HTX2 : Hid (∀ W', Below (W.heap.size + 1) W1 W' → TX W' a ins) := fun W' h => HTX.out.belowM (by rw [HS1.out]; exact h)
        have HW1Z : Hid (W1.heap.size = W.heap.size + 1) := HS1.out
        have HROW : Hid _ := HZ.out
        have HFB : Hid _ := HFB0.out
        have h1n : W1.heap.size = W.heap.size + 1 := HW1Z.out
        try rw [h1n]
        clear HZ HFB0 HS1 HTX h1n
        go_loopw [8, 9, 10, 11, 12, 13, 14] (fun u8 u9 u10 u11 u12 u13 u14 wr => ∃ (m : Q.Ms) (g cp : Nat), u8 = .slice (some ⟨g, 0, none⟩) m.st.length cp ∧ u9 = .int .i64 (m.place : Int) ∧ u10 = .int .i64 (m.n : Int) ∧ m.n ≤ 300 ∧ m.place ≤ 255 ∧ LS wr g cp m.st ∧ Q.Oks m.st ∧ Below (W.heap.size + 1) W1 wr ∧ Q.runF code ins (301 - m.n) m = R) (fun _ _ u10 _ _ _ _ _ => 301 - (intOf u10).toNat)
        case atStart => exact ⟨⟨[], 0, 0⟩, _, _, rfl, rfl, rfl, by simp, by simp, HL0.out _ rfl, ⟨by simp, fun t ht => by cases ht⟩, HB1.out, hR.symm⟩
        case round =>
          obtain ⟨m, g, cp, rfl, rfl, rfl, hn, hp, hls, hok, hbe, hRm⟩ := hrel
          clear HL0 HB1 hR
          have HBE : Hid (Below (W.heap.size + 1) W1 wr) := hbe
          have hrow := HROW.out _ hbe
          have r0 : wr.cell? ⟨W.heap.size, 0, none⟩ = some (.int .i64 0) := by simp [World.cell?, hrow]
          have r1 : wr.cell? ⟨W.heap.size, 1, none⟩ = some (.string ⟨#[]⟩) := by simp [World.cell?, hrow]
          have f0 := frozen_rowM hrow
          clear hrow hbe
          rw [runF_unfold code ins m hn] at hRm
          obtain ⟨st, pl, n⟩ := m
          simp only at hn hp hls hok hRm
          by_cases h1 : pl = code.length
          · rw [if_pos h1] at hRm
            have q1 : ((pl : Int) == (code.length : Int)) = true := by simp; omega
            rcases st with _ | ⟨t, r⟩
            · obtain rfl : (⟨31, [], n⟩ : Q.Re) = R := hRm
              clear hls hok HGE HTX2
              go_wp2_with fail
              refine bodyPost_ret (results2_rowM rfl _ _ W.heap.size 26 _ (0, 0) _ rfl (heap_setCell_rowM (heap_setCell_rowM (HROW.out _ HBE.out))) hum rfl (by first | exact infoRes | (simp only [Array.size_setIfInBounds]; exact infoRes))) rfl ?_
              exact ⟨rfl, HFB.out _ HBE.out _ _⟩
            · obtain rfl : (⟨0, t, n⟩ : Q.Re) = R := hRm
              have kt := hls.at (i := r.length) (t := t) (by simp)
              have hn8 := hok.1
              simp only [List.length_cons] at hn8
              have q2 : ((r.length : Int) + 1 == 0) = false := by simp; omega
              clear hls hok HGE HTX2
              go_wp2_with fail
              refine bodyPost_ret (results2_rowM rfl _ _ W.heap.size 26 _ (0, 0) _ rfl (heap_setCell_rowM (heap_setCell_rowM (HROW.out _ HBE.out))) hum rfl (by first | exact infoRes | (simp only [Array.size_setIfInBounds]; exact infoRes))) rfl ?_
              exact ⟨rfl, HFB.out _ HBE.out _ _⟩
          · rw [if_neg h1] at hRm
            have q1 : ((pl : Int) == (code.length : Int)) = false := by simp; omega
            by_cases hgt : code.length < pl
            · have e : Q.stepAt code pl = none := by unfold Q.stepAt Q.first; rw [if_pos (List.drop_of_length_le (by omega))]
              rw [e] at hRm
              obtain rfl : (⟨32, [], n⟩ : Q.Re) = R := hRm
              clear hls hok HGE HTX2 e
              go_wp2_with fail
              refine bodyPost_ret (results2_rowM rfl _ _ W.heap.size 26 _ (0, 0) _ rfl (heap_setCell_rowM (heap_setCell_rowM (HROW.out _ HBE.out))) hum rfl (by first | exact infoRes | (simp only [Array.size_setIfInBounds]; exact infoRes))) rfl ?_
              exact ⟨rfl, HFB.out _ HBE.out _ _⟩
            · have CW : Hid (∀ W, Calls Tryd.prog 19 #[.string (M.bs code), .int .i64 (pl : Int)] W fun e w' => e = .returned (.int .i64 (rwd code pl : Int)) ∧ w' = W) := fun W => rwidth_at code pl (by omega) (by omega) W
              have hex : ∀ z : Nat, (M.bs code).extract pl (pl + z) = M.bs ((code.drop pl).take z) := fun z => by rw [cut_bs]; congr 3; omega
              cases hst : Q.stepAt code pl with
              | none =>
                have hw0 : rwd code pl = 0 := by unfold rwd; rw [hst]
                rw [hw0] at CW
                rw [hst] at hRm
                obtain rfl : (⟨32, [], n⟩ : Q.Re) = R := hRm
                clear hls hok HGE HTX2 hst hex hw0
                go_wp2_with (go_at_call 19; refine (CW.out _).mono ?_; rintro e w' ⟨rfl, hw⟩; rw [hw]; clear hw w')
                refine bodyPost_ret (results2_rowM rfl _ _ W.heap.size 26 _ (0, 0) _ rfl (heap_setCell_rowM (heap_setCell_rowM (HROW.out _ HBE.out))) hum rfl (by first | exact infoRes | (simp only [Array.size_setIfInBounds]; exact infoRes))) rfl ?_
                exact ⟨rfl, HFB.out _ HBE.out _ _⟩
              | some s =>
                have hw0 : rwd code pl = s.length := by unfold rwd; rw [hst]
                rw [hw0] at CW
                rw [hst] at hRm
                simp only at hRm
                have hs0 := Q.first_len hst
                have hsl := (Q.first_some hst).2.1
                rw [List.length_drop] at hsl
                have hexs : (M.bs code).extract pl (pl + s.length) = M.bs s := by rw [hex s.length]; congr 1; exact (Q.first_some hst).2.2.symm
                have q3 : ((s.length : Int) == 0) = false := beq_eq_false_iff_ne.2 (by omega)
                clear hex hw0
                by_cases h300 : 300 ≤ n
                · rw [if_pos h300] at hRm
                  obtain rfl : n = 300 := by omega
                  obtain rfl : (⟨30, [], 300⟩ : Q.Re) = R := hRm
                  clear hls hok HGE HTX2 hst
                  go_wp2_with (go_at_call 19; refine (CW.out _).mono ?_; rintro e w' ⟨rfl, hw⟩; rw [hw]; clear hw w')
                  refine bodyPost_ret (results2_rowM rfl _ _ W.heap.size 26 _ (0, 0) _ rfl (heap_setCell_rowM (heap_setCell_rowM (HROW.out _ HBE.out))) hum rfl (by first | exact infoRes | (simp only [Array.size_setIfInBounds]; exact infoRes))) rfl ?_
                  exact ⟨rfl, HFB.out _ HBE.out _ _⟩
                · rw [if_neg h300] at hRm
                  have q4 : ((n : Int) == 300) = false := beq_eq_false_iff_ne.2 (by omega)
                  have CT : Hid (Calls Tryd.prog 20 #[.slice (some ⟨g, 0, none⟩) st.length cp, .string (M.bs s), .slice a ins.length c] wr fun e w' => RP (Q.act ins st s) (toR st s) wr e w') := rdo_at g cp st a c ins hls hok (HTX2.out _ HBE.out) h4 hi5 code s pl hst hc
                  have HNX := toR_next ⟨st, pl, n⟩ s
                  simp only at HNX
                  have HNL : Hid (Q.next ⟨st, pl, n⟩ s ≤ 255) := Q.next_le (m := ⟨st, pl, n⟩) hst hc
                  have HOK : Hid (Q.Oks (Q.act ins st s).2) := Q.act_ok hok s
                  have HAL : Hid ((Q.act ins st s).1 ≤ 100) := Q.act_le ins st s
                  have HGW : Hid (∀ W', Below wr.heap.size wr W' → Below (W.heap.size + 1) W1 W') := fun W' h => HBE.out.trans (h.mono (HGE.out _ HBE.out))
                  obtain ⟨htr1, htr2⟩ := toR_le st s
                  have hRm2 : (if (Q.act ins st s).1 = 0 then Q.runF code ins (301 - (n + 1)) ⟨(Q.act ins st s).2, Q.next ⟨st, pl, n⟩ s, n + 1⟩ else ⟨(Q.act ins st s).1, [], n + 1⟩) = R := hRm
                  clear hRm hls hok HGE hst
                  generalize Q.next ⟨st, pl, n⟩ s = nx at *
                  generalize toR st s = to at *
                  obtain ⟨er, st2, hact⟩ : ∃ er st2, Q.act ins st s = (er, st2) := ⟨_, _, rfl⟩
                  rw [hact] at CT hRm2 HOK HAL
                  simp only at hRm2 HOK HAL
                  clear hact
                  by_cases h0 : er = 0
                  · subst h0
                    rw [if_pos rfl] at hRm2
                    have CT2 : Hid (Calls Tryd.prog 20 #[.slice (some ⟨g, 0, none⟩) st.length cp, .string (M.bs s), .slice a ins.length c] wr fun e w' => ∃ g' c', e = .returned (.tuple #[.slice (some ⟨g', 0, none⟩) st2.length c', .int .i64 to, .int .i64 0]) ∧ LS w' g' c' st2 ∧ Below (W.heap.size + 1) W1 w') := by
                      refine CT.out.mono ?_
                      rintro e w' ⟨h1, _, h3⟩
                      obtain ⟨g', c', he, hl⟩ := h1 rfl
                      exact ⟨g', c', he, hl, HGW.out _ h3⟩
                    have HRM : Hid (Q.runF code ins (301 - (n + 1)) ⟨st2, nx, n + 1⟩ = R) := hRm2
                    clear CT hRm2 HGW HTX2
                    by_cases ht0 : 0 ≤ to
                    · rw [if_pos ht0] at HNX
                      have HNY : Hid ((nx : Int) = to) := HNX
                      clear HNX
                      go_wp2_with (first
                        | (go_at_call 19; refine (CW.out _).mono ?_; rintro e w' ⟨rfl, hw⟩; rw [hw]; clear hw w')
                        | (go_at_call 20; refine CT2.out.mono ?_; clear CT2; rintro e w2 ⟨g', c', rfl, HLS, HB2⟩; have HLT : Hid (LS w2 g' c' st2) := HLS; have HB3 : Hid (Below (W.heap.size + 1) W1 w2) := HB2; clear HLS HB2))
                      go_roundw
                      case rel => exact ⟨⟨st2, nx, n + 1⟩, g', c', rfl, by rw [HNY.out], by go_num, by show n + 1 ≤ 300; omega, HNL.out, HLT.out, HOK.out, HB3.out, HRM.out⟩
                      case measure => simp [intOf]; omega
                    · rw [if_neg ht0] at HNX
                      have HNY : Hid ((nx : Int) = (pl : Int) + (s.length : Int)) := HNX
                      clear HNX
                      go_wp2_with (first
                        | (go_at_call 19; refine (CW.out _).mono ?_; rintro e w' ⟨rfl, hw⟩; rw [hw]; clear hw w')
                        | (go_at_call 20; refine CT2.out.mono ?_; clear CT2; rintro e w2 ⟨g', c', rfl, HLS, HB2⟩; have HLT : Hid (LS w2 g' c' st2) := HLS; have HB3 : Hid (Below (W.heap.size + 1) W1 w2) := HB2; clear HLS HB2))
                      go_roundw
                      case rel => exact ⟨⟨st2, nx, n + 1⟩, g', c', rfl, by rw [HNY.out], by go_num, by show n + 1 ≤ 300; omega, HNL.out, HLT.out, HOK.out, HB3.out, HRM.out⟩
                      case measure => simp [intOf]; omega
                  · rw [if_neg h0] at hRm2
                    obtain rfl : (⟨er, [], n + 1⟩ : Q.Re) = R := hRm2
                    have hal := HAL.out
                    have q5 : ((er : Int) != 0) = true := by simp; omega
                    have CT2 : Hid (Calls Tryd.prog 20 #[.slice (some ⟨g, 0, none⟩) st.length cp, .string (M.bs s), .slice a ins.length c] wr fun e w' => e = .returned (.tuple #[.slice none 0 0, .int .i64 (-1), .int .i64 (er : Int)]) ∧ Below (W.heap.size + 1) W1 w') := by
                      refine CT.out.mono ?_
                      rintro e w' ⟨_, h2, h3⟩
                      exact ⟨h2 h0, HGW.out _ h3⟩
                    clear CT HGW HTX2 HNX r0 r1 f0
                    go_wp2_with (first
                      | (go_at_call 19; refine (CW.out _).mono ?_; rintro e w' ⟨rfl, hw⟩; rw [hw]; clear hw w')
                      | (go_at_call 20; refine CT2.out.mono ?_; clear CT2 HBE; rintro e w2 ⟨rfl, hb2⟩; have HBE : Hid (Below (W.heap.size + 1) W1 w2) := hb2; have hrow2 := HROW.out _ hb2; have r0 : w2.cell? ⟨W.heap.size, 0, none⟩ = some (.int .i64 0) := (by simp [World.cell?, hrow2]); have r1 : w2.cell? ⟨W.heap.size, 1, none⟩ = some (.string ⟨#[]⟩) := (by simp [World.cell?, hrow2]); have f0 := frozen_rowM hrow2; clear hrow2 hb2))
                    refine bodyPost_ret (results2_rowM rfl _ _ W.heap.size 26 _ (0, 0) _ rfl (heap_setCell_rowM (heap_setCell_rowM (HROW.out _ HBE.out))) hum rfl (by first | exact infoRes | (simp only [Array.size_setIfInBounds]; exact infoRes))) rfl ?_
                    exact ⟨rfl, HFB.out _ HBE.out _ _⟩
end Go.Proofs.YtodcafmhaleemaaDoor
/- MillExact's walk. -/
namespace Go.Proofs.YtodcafmhaleemaaDoor
open Go.RowKit
set_option linter.unusedVariables false

theorem rRun_any (code : List UInt8) (ins : List (List UInt8)) (a : Option Addr) (c : Nat) (W : World) (hx : TX W a ins) (hl : code.length ≤ 9223372036854775807) (hn : ins.length ≤ 9223372036854775807) (hil : ∀ t ∈ ins, t.length ≤ 9223372036854775807) :
    Calls Tryd.prog 11 #[.string (M.bs code), .slice a ins.length c] W fun e w' => e = .returned (runV (Q.run code ins)) ∧ Below W.heap.size W w' := by
  by_cases h : 64 < code.length ∨ 4 < ins.length
  · have e : Q.run code ins = ⟨4, [], 0⟩ := by
      unfold Q.run
      rw [if_pos (by rcases h with h | h; exact Or.inl h; exact Or.inr (Or.inl h))]
    rw [e]
    exact rRun_long code ins a c W h hl hn
  · exact rRun_at code ins a c W hx (by omega) (by omega) hil
set_option maxRecDepth 8000 in
set_option maxHeartbeats 4000000 in
theorem millExact_walk (code : List UInt8) (ins : List (List UInt8)) (a : Option Addr) (c : Nat) (W : World) (hG : GW W) (hT : Tab W) (hx : TX W a ins) (hl : code.length ≤ 9223372036854775807) (hn : ins.length ≤ 9223372036854775807) (hil : ∀ t ∈ ins, t.length ≤ 9223372036854775807) :
    Calls Tryd.prog 3 #[.string (M.bs code), .slice a ins.length c] W fun e w' => e = .returned (.bool true) ∧ Below W.heap.size W w' := by
  have CA : Hid (Calls Tryd.prog 9 #[] W fun e w' => e = .returned (.bool true) ∧ GB W w') := awake_m (GB.refl hG) hT
  have hs := M.bs_size code
  by_cases h40 : 40 < ins.length
  · clear hG hT hx hil
    go_enter Tryd.func3, Tryd.ntmps3
    go_wp2_with (go_at_call 9; refine CA.out.mono ?_; clear CA; rintro e w1 ⟨rfl, HG⟩)
    go_ret
    exact ⟨rfl, HG.b⟩
  · have CR : Hid (∀ W', GB W W' → Calls Tryd.prog 10 #[.string (M.bs code), .slice a ins.length c] W' fun e w' => e = .returned (runV (Q.run code ins)) ∧ GB W w' ∧ Below W'.heap.size W' w') := fun W' h => Run_b code ins a c h hT (hx.belowM h.b) hl hn hil
    have CQ : Hid (∀ W', GB W W' → Calls Tryd.prog 11 #[.string (M.bs code), .slice a ins.length c] W' fun e w' => e = .returned (runV (Q.run code ins)) ∧ GB W w' ∧ Below W'.heap.size W' w') := fun W' h => by
      refine (rRun_any code ins a c W' (hx.belowM h.b) hl hn hil).mono ?_
      rintro e w' ⟨rfl, hb⟩
      exact ⟨rfl, h.step hb, hb⟩
    generalize Q.run code ins = R at *
    obtain ⟨rc, rb, rn⟩ := R
    unfold runV at CR CQ
    simp only at CR CQ
    have CR2 : Hid (∀ w1, GB W w1 → Calls Tryd.prog 11 #[.string (M.bs code), .slice a ins.length c] (w1.alloc (.cells #[.int .i64 (rc : Int), .string (M.bs rb)] 26)) fun e w' => e = .returned (.tuple #[.agg #[.int .i64 (rc : Int), .string (M.bs rb)], .int .i64 (rn : Int)]) ∧ GB W w' ∧ ResAt w1.heap.size rc rb w') := fun w1 h => by
      refine (CQ.out _ (h.alloc _)).mono ?_
      rintro e w' ⟨rfl, h1, h2⟩
      exact ⟨rfl, h1, (ResAt.new w1 rc rb).below h2⟩
    have hbq : ((M.bs rb).toList == (M.bs rb).toList) = true := by simp
    clear hG hT hx hil CQ
    go_enter Tryd.func3, Tryd.ntmps3
    go_wp2_with (first
      | (go_at_call 9; refine CA.out.mono ?_; clear CA; rintro e w0 ⟨rfl, HG⟩; have HG0 : Hid (GB W w0) := HG; clear HG)
      | (go_at_call 10; refine (CR.out _ HG0.out).mono ?_; clear CR HG0; rintro e w1 ⟨rfl, HG, _⟩; have HG1 : Hid (GB W w1) := HG; clear HG)
      | (go_at_call 11; refine (CR2.out _ HG1.out).mono ?_; clear CR2; rintro e w2 ⟨rfl, HG, hr⟩; have HG2 : Hid (GB W w2) := HG; have a0 := fun o : Obj => (hr.below ((Below.refl _ w2).alloc (Nat.le_refl _) o)).1; have a1 := fun o : Obj => (hr.below ((Below.refl _ w2).alloc (Nat.le_refl _) o)).2; clear HG hr))
    go_ret
    exact ⟨rfl, HG2.out.b.alloc HG2.out.b.size _⟩
end Go.Proofs.YtodcafmhaleemaaDoor
