/- trellis: places, Dirty. -/
import Derived.Test.YthpdmeoljdmncaaZ10
namespace Go.Proofs.Ythpdmeoljdmncaa
open Go.RowKit
set_option linter.unusedVariables false
set_option linter.unusedSimpArgs false

/-- those of the first k places of which something holds -/
def plcs (q : Nat → Bool) (k : Nat) : List Nat := (List.range k).filter q
theorem plcs_succ (q : Nat → Bool) (k : Nat) : plcs q (k + 1) = plcs q k ++ (if q k then [k] else []) := by
  unfold plcs
  rw [List.range_succ, List.filter_append]
  congr 1
  by_cases h : q k = true
  · simp [h]
  · simp [h]
theorem plcs_le (q : Nat → Bool) (k : Nat) : (plcs q k).length ≤ k := by
  unfold plcs
  have := List.length_filter_le q (List.range k)
  simpa using this
set_option maxRecDepth 8000 in
set_option maxHeartbeats 2000000 in
theorem places_x {w W : World} {b : Nat} {g : RC.Gr} {sa aa : Option Addr} {sc ac : Nat} {vn vo : Value} {st : TR.St} (h : KX w b g sa sc aa ac vn vo st W) (f : FuncId) (caps : Array Value) (q : Nat → Bool)
    (hent : ∀ args w, (callFunc f args).run Try.prog w = .ok (.enter f args) w)
    (hf : ∀ (W' : World) (p : Nat), p < g.2.length → Bl W W' → Calls Try.prog f (#[.int .i64 (p : Int)] ++ caps) W' fun e w' => e = .returned (.bool (q p)) ∧ Bl W' w') :
    Calls Try.prog 34 #[.pointer (some ⟨b, 0, none⟩), .func (.func f) #[] caps] W fun e w' => ∃ v, e = .returned v ∧ w'.ownsRow W.heap.size 3 1 v (plcs q g.2.length).length ((plcs q g.2.length).map encI) ∧ Bl W w' := by
  have h1 := h.c1
  have hbl := h.lt
  have hl2 := h.v.l2
  have HF0 : Hid (∀ (W' : World) (p : Nat), p < g.2.length → Bl W W' → Calls Try.prog f (#[.int .i64 (p : Int)] ++ caps) W' fun e w' => e = .returned (.bool (q p)) ∧ Bl W' w') := hf
  clear h hf
  go_enter Try.func34, Try.ntmps34
  go_wp2_with fail
  go_loopw [5, 6, 13] (fun u5 u6 u13 wr => ∃ k : Nat, k ≤ g.2.length ∧ u13 = .int .i64 k ∧ wr.ownsRow W.heap.size 3 1 u5 (plcs q k).length ((plcs q k).map encI) ∧ Bl W wr) (fun _ _ u13 _ => g.2.length - (intOf u13).toNat)
  case atStart => exact ⟨0, Nat.zero_le _, rfl, ⟨rfl, Or.inl ⟨rfl, rfl⟩⟩, Bl.refl W⟩
  case round =>
    obtain ⟨k, hk, rfl, ho, hb⟩ := hrel
    have HO : Hid (wr.ownsRow W.heap.size 3 1 u5 (plcs q k).length ((plcs q k).map encI)) := ho
    have HB : Hid (Bl W wr) := hb
    clear ho hb
    by_cases hlt : k < g.2.length
    · have hsu := plcs_succ q k
      have hle := plcs_le q k
      obtain ⟨r, hr⟩ : ∃ r, q k = r := ⟨_, rfl⟩
      have CF : Hid (Calls Try.prog f (#[.int .i64 (k : Int)] ++ caps) wr fun e w' => e = .returned (.bool r) ∧ Bl wr w') := by
        show Calls _ _ _ _ _
        rw [← hr]; exact HF0.out wr k hlt HB.out
      rw [hr] at hsu
      clear hr
      cases r
      · have HS : Hid (plcs q (k + 1) = plcs q k) := by show _ = _; rw [hsu]; simp
        clear hsu HF0
        go_wp2_with (go_at_fn f; refine CF.out.mono ?_; clear CF; rintro e w3 ⟨rfl, HB3⟩)
        go_roundw
        case rel => exact ⟨k + 1, by omega, by go_num, by rw [HS.out]; exact ownsRow_belowT HO.out HB3, HB.out.step HB3⟩
        case measure => simp [intOf]; omega
      · have HS : Hid (plcs q (k + 1) = plcs q k ++ [k]) := by show _ = _; rw [hsu]; simp
        clear hsu HF0
        have OWN : Hid (∀ w3, Bl wr w3 → (w3.alloc (.cells #[.int .i64 (k : Int)] 3)).ownsRow W.heap.size 3 1 u5 (plcs q k).length ((plcs q k).map encI)) := fun w3 h3 => ownsRow_belowT HO.out (h3.alloc _)
        have NEW : Hid (∀ w3 : World, (w3.alloc (.cells #[.int .i64 (k : Int)] 3)).cell? ⟨w3.heap.size, 0, none⟩ = some (encI k)) := fun w3 => by
          rw [Lib.cell_of_heap (heap_alloc_new w3 _)]; rfl
        have HSZ : Hid (∀ w3, Bl wr w3 → W.heap.size ≤ (w3.alloc (.cells #[.int .i64 (k : Int)] 3)).heap.size) := fun w3 h3 => by
          have := Below.size (HB.out.step h3)
          simp; omega
        have FIN : Hid (∀ w3 v' w8, Bl wr w3 → w8.ownsRow W.heap.size 3 1 v' (plcs q k ++ [k]).length ((plcs q k ++ [k]).map encI) → (w3.alloc (.cells #[.int .i64 (k : Int)] 3)).grownBy w8 u5.ownBlock → w8.ownsRow W.heap.size 3 1 v' (plcs q (k + 1)).length ((plcs q (k + 1)).map encI) ∧ Bl W w8) := fun w3 v' w8 h0 h3 h4 => by
          rw [HS.out]
          exact ⟨h3, Below.grown ((HB.out.step h0).alloc _) h4 (HSZ.out w3 h0) (fun q hq => (TA.owns_ge HO.out hq).1)⟩
        clear HO
        go_wp2_with (first
          | (go_at_fn f; refine CF.out.mono ?_; clear CF; rintro e w3 ⟨rfl, HB3⟩)
          | (refine wl_appI rfl _ _ rfl W.heap.size (plcs q k) u5 rfl (OWN.out _ HB3) w3.heap.size k rfl (NEW.out _) (HSZ.out _ HB3) (by omega) (fun a' c' w8 ho8 hg8 => ?_); obtain ⟨HO8, HB8⟩ := FIN.out _ _ _ HB3 ho8 hg8; clear FIN OWN NEW HSZ ho8 hg8))
        go_roundw
        case rel =>
          rw [List.length_append] at HO8
          exact ⟨k + 1, by omega, by go_num, HO8, HB8⟩
        case measure => simp [intOf]; omega
    · obtain rfl : k = g.2.length := by omega
      go_wp2_with fail
      go_ret
      exact ⟨_, rfl, HO.out, HB.out⟩

/-- whether the action of a place is dirty -/
def drt (g : RC.Gr) (st : TR.St) (ch p : Nat) : Bool := !decide (TR.ndAt st.needs p &&& ch = 0) || ch.testBit (g.1.length + p)
set_option maxRecDepth 8000 in
set_option maxHeartbeats 2000000 in
theorem dirty1_at {w W : World} {b : Nat} {g : RC.Gr} {sa aa : Option Addr} {sc ac : Nat} {vn vo : Value} {st : TR.St} (h : KX w b g sa sc aa ac vn vo st W) (cb ch p : Nat) (hp : p < g.2.length) (hch : ch < 4294967296) (hcb : cb < W.heap.size) (hc : W.cell? ⟨cb, 0, none⟩ = some (su ch)) :
    Calls Try.prog 35 #[.int .i64 (p : Int), .pointer (some ⟨b, 0, none⟩), .pointer (some ⟨cb, 0, none⟩)] W fun e w' => e = .returned (.bool (drt g st ch p)) ∧ Bl W w' := by
  have hl1 := h.v.l1
  have hl2 := h.v.l2
  have hbl := h.lt
  have hcn := h.cn (show p < 12 by omega)
  have hnd := h.v.ndl p
  have KP : Hid (∀ U, Bl W U → U.cell? ⟨b, 5 + p, none⟩ = some (su (TR.ndAt st.needs p)) ∧ U.cell? ⟨cb, 0, none⟩ = some (su ch)) := fun U hU => ⟨by rw [Bl.cell hU hbl]; exact hcn, by rw [Bl.cell hU hcb]; exact hc⟩
  have CM : Hid (∀ U, Bl W U → Calls Try.prog 36 #[su (TR.ndAt st.needs p), su ch] U fun e w' => e = .returned (.bool (!decide (TR.ndAt st.needs p &&& ch = 0))) ∧ Bl W w') := fun U hU => by
    refine (meets_at _ _ hnd hch _).mono ?_
    rintro e w' ⟨rfl, rfl⟩
    exact ⟨rfl, hU⟩
  have CN : Hid (∀ U, Bl W U → Calls Try.prog 38 #[.pointer (some ⟨b, 0, none⟩), .int .i64 (p : Int)] U fun e w' => e = .returned (.int .i64 ((g.1.length + p : Nat) : Int)) ∧ Bl W w') := fun U hU => by
    refine (number_at (h.step hU) p (by omega)).mono ?_
    rintro e w' ⟨rfl, rfl⟩
    exact ⟨rfl, hU⟩
  have CH : Hid (∀ U, Bl W U → Calls Try.prog 37 #[su ch, .int .i64 ((g.1.length + p : Nat) : Int)] U fun e w' => e = .returned (.bool (ch.testBit (g.1.length + p))) ∧ Bl W w') := fun U hU => by
    refine (has_at ch (g.1.length + p) hch (by omega) _).mono ?_
    rintro e w' ⟨rfl, rfl⟩
    exact ⟨rfl, hU⟩
  have HD : Hid (drt g st ch p = (!decide (TR.ndAt st.needs p &&& ch = 0) || ch.testBit (g.1.length + p))) := rfl
  obtain ⟨q1, hq1⟩ : ∃ q, (!decide (TR.ndAt st.needs p &&& ch = 0)) = q := ⟨_, rfl⟩
  obtain ⟨q2, hq2⟩ : ∃ q, ch.testBit (g.1.length + p) = q := ⟨_, rfl⟩
  rw [hq1] at CM HD
  rw [hq2] at CH HD
  have hp12 : (p : Int) < 12 := by omega
  have DR : Hid (Bl W W.drew) := (Bl.refl W).drewN 1
  clear h hq1 hq2 hcn hc
  generalize TR.ndAt st.needs p = nd at *
  generalize g.1.length + p = MM at *
  generalize drt g st ch p = R at *
  cases q1
  · go_enter Try.func35, Try.ntmps35
    go_wp2_with fail
    refine wp_region_noPanic ?_
    refine wp_region_held_drew (S := fun U => U.cell? ⟨b, 5 + p, none⟩ = some (su nd) ∧ U.cell? ⟨cb, 0, none⟩ = some (su ch)) (by kernel_rfl) (KP.out _ (DR.out)) (fun hHeld => ?_)
    refine wpAnyH_take (i := 0) rfl (by kernel_rfl) (by kernel_rfl) (by kernel_rfl) (fun _ _ _ h => h) (yi_move (by kernel_rfl) rfl rfl) (by assumption) ?_
    simp only [Act.put, List.getElem_toArray, List.getElem_cons_succ, List.getElem_cons_zero, List.setIfInBounds_toArray, List.set_cons_zero, List.set_cons_succ]
    refine wpAnyH_take (i := 1) (v := ?_) rfl (by kernel_rfl) (by kernel_rfl) (by kernel_rfl) (fun _ _ _ h => h) (Or.inl ⟨by kernel_rfl, ?_⟩) (by assumption) ?_
    rotate_left
    · (intro w hSw; (try dsimp only at hSw); go_simp; (try with_reducible rfl))
    simp only [Act.put, List.getElem_toArray, List.getElem_cons_succ, List.getElem_cons_zero, List.setIfInBounds_toArray, List.set_cons_zero, List.set_cons_succ]
    refine wpAnyH_take (i := 2) (v := ?_) rfl (by kernel_rfl) (by kernel_rfl) (by kernel_rfl) (fun _ _ _ h => h) (Or.inl ⟨by kernel_rfl, ?_⟩) (by assumption) ?_
    rotate_left
    · (intro w hSw; (try dsimp only at hSw); go_simp; (try with_reducible rfl))
    simp only [Act.put, List.getElem_toArray, List.getElem_cons_succ, List.getElem_cons_zero, List.setIfInBounds_toArray, List.set_cons_zero, List.set_cons_succ]
    refine wpAnyH_take (i := 3) (v := ?_) rfl (by kernel_rfl) (by kernel_rfl) (by kernel_rfl) (fun _ _ _ h => h) (Or.inl ⟨by kernel_rfl, ?_⟩) (by assumption) ?_
    rotate_left
    · (intro w hSw; (try dsimp only at hSw); go_simp; (try with_reducible rfl))
    simp only [Act.put, List.getElem_toArray, List.getElem_cons_succ, List.getElem_cons_zero, List.setIfInBounds_toArray, List.set_cons_zero, List.set_cons_succ]
    refine wpAnyH_take (i := 4) (v := ?_) rfl (by kernel_rfl) (by kernel_rfl) (by kernel_rfl) (fun _ _ _ h => h) (Or.inl ⟨by kernel_rfl, ?_⟩) (by assumption) ?_
    rotate_left
    · (intro w hSw; (try dsimp only at hSw); go_simp; (try with_reducible rfl))
    simp only [Act.put, List.getElem_toArray, List.getElem_cons_succ, List.getElem_cons_zero, List.setIfInBounds_toArray, List.set_cons_zero, List.set_cons_succ]
    refine wpAnyH_ready (rs := [5]) (by kernel_rfl) (by simp) ?_
    refine AllReadyH.cons (o := _) rfl (fun K hK => ?_) AllReadyH.nil
    go_simp
    go_at_call 36; refine (CM.out _ DR.out).mono ?_; rintro e w' ⟨rfl, HB6⟩
    refine hK.out _ _ (KP.out _ (HB6)) (fun hHeld => ?_)
    clear hK K
    (try simp only [Act.put, List.getElem_toArray, List.getElem_cons_succ, List.getElem_cons_zero, List.setIfInBounds_toArray, List.set_cons_zero, List.set_cons_succ])
    refine wpAnyH_take (i := 6) rfl (by kernel_rfl) (by kernel_rfl) (by kernel_rfl) (fun _ _ _ h => h) (yi_move (by kernel_rfl) rfl rfl) (by assumption) ?_
    simp only [Act.put, List.getElem_toArray, List.getElem_cons_succ, List.getElem_cons_zero, List.setIfInBounds_toArray, List.set_cons_zero, List.set_cons_succ]
    refine wpAnyH_take (i := 7) (v := ?_) rfl (by kernel_rfl) (by kernel_rfl) (by kernel_rfl) (fun _ _ _ h => h) (Or.inl ⟨by kernel_rfl, ?_⟩) (by assumption) ?_
    rotate_left
    · (intro w hSw; (try dsimp only at hSw); go_simp; (try with_reducible rfl))
    simp only [Act.put, List.getElem_toArray, List.getElem_cons_succ, List.getElem_cons_zero, List.setIfInBounds_toArray, List.set_cons_zero, List.set_cons_succ]
    refine wpAnyH_take (i := 8) rfl (by kernel_rfl) (by kernel_rfl) (by kernel_rfl) (fun _ _ _ h => h) (yi_move (by kernel_rfl) rfl rfl) (by assumption) ?_
    simp only [Act.put, List.getElem_toArray, List.getElem_cons_succ, List.getElem_cons_zero, List.setIfInBounds_toArray, List.set_cons_zero, List.set_cons_succ]
    refine wpAnyH_ready (rs := [9]) (by kernel_rfl) (by simp) ?_
    refine AllReadyH.cons (o := _) rfl (fun K hK => ?_) AllReadyH.nil
    go_simp
    go_at_call 38; refine (CN.out _ HB6).mono ?_; rintro e w' ⟨rfl, HB10⟩
    refine hK.out _ _ (KP.out _ (HB10)) (fun hHeld => ?_)
    clear hK K
    (try simp only [Act.put, List.getElem_toArray, List.getElem_cons_succ, List.getElem_cons_zero, List.setIfInBounds_toArray, List.set_cons_zero, List.set_cons_succ])
    refine wpAnyH_ready (rs := [10]) (by kernel_rfl) (by simp) ?_
    refine AllReadyH.cons (o := _) rfl (fun K hK => ?_) AllReadyH.nil
    go_simp
    go_at_call 37; refine (CH.out _ HB10).mono ?_; rintro e w' ⟨rfl, HB11⟩
    refine hK.out _ _ (KP.out _ (HB11)) (fun hHeld => ?_)
    clear hK K
    (try simp only [Act.put, List.getElem_toArray, List.getElem_cons_succ, List.getElem_cons_zero, List.setIfInBounds_toArray, List.set_cons_zero, List.set_cons_succ])
    refine wpAnyH_take (i := 11) (v := ?_) rfl (by kernel_rfl) (by kernel_rfl) (by kernel_rfl) (fun _ _ _ h => h) (Or.inl ⟨by kernel_rfl, ?_⟩) (by assumption) ?_
    rotate_left
    · (intro w hSw; (try dsimp only at hSw); go_simp; (try with_reducible rfl))
    simp only [Act.put, List.getElem_toArray, List.getElem_cons_succ, List.getElem_cons_zero, List.setIfInBounds_toArray, List.set_cons_zero, List.set_cons_succ]
    refine wpAnyH_take (i := 12) rfl (by kernel_rfl) (by kernel_rfl) (by kernel_rfl) (fun _ _ _ h => h) (yi_assign (by kernel_rfl) rfl rfl) (by assumption) ?_
    simp only [Act.put, List.getElem_toArray, List.getElem_cons_succ, List.getElem_cons_zero, List.setIfInBounds_toArray, List.set_cons_zero, List.set_cons_succ]
    refine wpAnyH_done (by kernel_rfl) ?_ _
    refine NoPanic.normal ?_
    go_wp2_with fail
    go_ret
    exact ⟨by rw [HD.out]; rfl, HB11⟩
  · go_enter Try.func35, Try.ntmps35
    go_wp2_with fail
    refine wp_region_noPanic ?_
    refine wp_region_held_drew (S := fun U => U.cell? ⟨b, 5 + p, none⟩ = some (su nd) ∧ U.cell? ⟨cb, 0, none⟩ = some (su ch)) (by kernel_rfl) (KP.out _ (DR.out)) (fun hHeld => ?_)
    refine wpAnyH_take (i := 0) rfl (by kernel_rfl) (by kernel_rfl) (by kernel_rfl) (fun _ _ _ h => h) (yi_move (by kernel_rfl) rfl rfl) (by assumption) ?_
    simp only [Act.put, List.getElem_toArray, List.getElem_cons_succ, List.getElem_cons_zero, List.setIfInBounds_toArray, List.set_cons_zero, List.set_cons_succ]
    refine wpAnyH_take (i := 1) (v := ?_) rfl (by kernel_rfl) (by kernel_rfl) (by kernel_rfl) (fun _ _ _ h => h) (Or.inl ⟨by kernel_rfl, ?_⟩) (by assumption) ?_
    rotate_left
    · (intro w hSw; (try dsimp only at hSw); go_simp; (try with_reducible rfl))
    simp only [Act.put, List.getElem_toArray, List.getElem_cons_succ, List.getElem_cons_zero, List.setIfInBounds_toArray, List.set_cons_zero, List.set_cons_succ]
    refine wpAnyH_take (i := 2) (v := ?_) rfl (by kernel_rfl) (by kernel_rfl) (by kernel_rfl) (fun _ _ _ h => h) (Or.inl ⟨by kernel_rfl, ?_⟩) (by assumption) ?_
    rotate_left
    · (intro w hSw; (try dsimp only at hSw); go_simp; (try with_reducible rfl))
    simp only [Act.put, List.getElem_toArray, List.getElem_cons_succ, List.getElem_cons_zero, List.setIfInBounds_toArray, List.set_cons_zero, List.set_cons_succ]
    refine wpAnyH_take (i := 3) (v := ?_) rfl (by kernel_rfl) (by kernel_rfl) (by kernel_rfl) (fun _ _ _ h => h) (Or.inl ⟨by kernel_rfl, ?_⟩) (by assumption) ?_
    rotate_left
    · (intro w hSw; (try dsimp only at hSw); go_simp; (try with_reducible rfl))
    simp only [Act.put, List.getElem_toArray, List.getElem_cons_succ, List.getElem_cons_zero, List.setIfInBounds_toArray, List.set_cons_zero, List.set_cons_succ]
    refine wpAnyH_take (i := 4) (v := ?_) rfl (by kernel_rfl) (by kernel_rfl) (by kernel_rfl) (fun _ _ _ h => h) (Or.inl ⟨by kernel_rfl, ?_⟩) (by assumption) ?_
    rotate_left
    · (intro w hSw; (try dsimp only at hSw); go_simp; (try with_reducible rfl))
    simp only [Act.put, List.getElem_toArray, List.getElem_cons_succ, List.getElem_cons_zero, List.setIfInBounds_toArray, List.set_cons_zero, List.set_cons_succ]
    refine wpAnyH_ready (rs := [5]) (by kernel_rfl) (by simp) ?_
    refine AllReadyH.cons (o := _) rfl (fun K hK => ?_) AllReadyH.nil
    go_simp
    go_at_call 36; refine (CM.out _ DR.out).mono ?_; rintro e w' ⟨rfl, HB6⟩
    refine hK.out _ _ (KP.out _ (HB6)) (fun hHeld => ?_)
    clear hK K
    (try simp only [Act.put, List.getElem_toArray, List.getElem_cons_succ, List.getElem_cons_zero, List.setIfInBounds_toArray, List.set_cons_zero, List.set_cons_succ])
    refine wpAnyH_take (i := 6) rfl (by kernel_rfl) (by kernel_rfl) (by kernel_rfl) (fun _ _ _ h => h) (yi_move (by kernel_rfl) rfl rfl) (by assumption) ?_
    simp only [Act.put, List.getElem_toArray, List.getElem_cons_succ, List.getElem_cons_zero, List.setIfInBounds_toArray, List.set_cons_zero, List.set_cons_succ]
    refine wpAnyH_take (i := 7) (v := undef) rfl (by kernel_rfl) (by kernel_rfl) (by kernel_rfl) (fun _ _ _ h => h) (Or.inr ⟨by kernel_rfl, rfl⟩) (by assumption) ?_
    simp only [Act.put, List.getElem_toArray, List.getElem_cons_succ, List.getElem_cons_zero, List.setIfInBounds_toArray, List.set_cons_zero, List.set_cons_succ]
    refine wpAnyH_take (i := 8) (v := undef) rfl (by kernel_rfl) (by kernel_rfl) (by kernel_rfl) (fun _ _ _ h => h) (Or.inr ⟨by kernel_rfl, rfl⟩) (by assumption) ?_
    simp only [Act.put, List.getElem_toArray, List.getElem_cons_succ, List.getElem_cons_zero, List.setIfInBounds_toArray, List.set_cons_zero, List.set_cons_succ]
    refine wpAnyH_take (i := 9) (v := undef) rfl (by kernel_rfl) (by kernel_rfl) (by kernel_rfl) (fun _ _ _ h => h) (Or.inr ⟨by kernel_rfl, rfl⟩) (by assumption) ?_
    simp only [Act.put, List.getElem_toArray, List.getElem_cons_succ, List.getElem_cons_zero, List.setIfInBounds_toArray, List.set_cons_zero, List.set_cons_succ]
    refine wpAnyH_take (i := 10) (v := undef) rfl (by kernel_rfl) (by kernel_rfl) (by kernel_rfl) (fun _ _ _ h => h) (Or.inr ⟨by kernel_rfl, rfl⟩) (by assumption) ?_
    simp only [Act.put, List.getElem_toArray, List.getElem_cons_succ, List.getElem_cons_zero, List.setIfInBounds_toArray, List.set_cons_zero, List.set_cons_succ]
    refine wpAnyH_take (i := 11) (v := ?_) rfl (by kernel_rfl) (by kernel_rfl) (by kernel_rfl) (fun _ _ _ h => h) (Or.inl ⟨by kernel_rfl, ?_⟩) (by assumption) ?_
    rotate_left
    · (intro w hSw; (try dsimp only at hSw); go_simp; (try with_reducible rfl))
    simp only [Act.put, List.getElem_toArray, List.getElem_cons_succ, List.getElem_cons_zero, List.setIfInBounds_toArray, List.set_cons_zero, List.set_cons_succ]
    refine wpAnyH_take (i := 12) rfl (by kernel_rfl) (by kernel_rfl) (by kernel_rfl) (fun _ _ _ h => h) (yi_assign (by kernel_rfl) rfl rfl) (by assumption) ?_
    simp only [Act.put, List.getElem_toArray, List.getElem_cons_succ, List.getElem_cons_zero, List.setIfInBounds_toArray, List.set_cons_zero, List.set_cons_succ]
    refine wpAnyH_done (by kernel_rfl) ?_ _
    refine NoPanic.normal ?_
    go_wp2_with fail
    go_ret
    exact ⟨by rw [HD.out]; rfl, HB6⟩
set_option maxRecDepth 8000 in
set_option maxHeartbeats 4000000 in
theorem Dirty_k (g : RC.Gr) (sa : Option Addr) (sc : Nat) (aa : Option Addr) (ac : Nat) (xs : List (List UInt8)) (xa : Option Addr) (xc : Nat) {w W : World} (HB : Bl w W) (hg : GA W.heap.size W g sa sc aa ac) (hk : grOk g) (hx : Strs W.heap.size W (.slice xa xs.length xc) xs) (hn : xs.length ≤ maxLen) :
    Calls Try.prog 19 #[.agg (gv g sa sc aa ac), .slice xa xs.length xc] W fun e w' => ∃ v g' st, e = .returned v ∧ KR g g' st ∧ w'.ownsRow W.heap.size 3 1 v (plcs (drt g' st (TR.setOf (TR.nm g') xs)) g'.2.length).length ((plcs (drt g' st (TR.setOf (TR.nm g') xs)) g'.2.length).map encI) ∧ Bl w w' := by
  have hz := zk_size
  have hzz : ∀ W, (zeroValue 53).run Try.prog W = .ok (.agg zk) W := zeroK
  have CS : Hid (∀ o1, Calls Try.prog 23 #[.agg (gv g sa sc aa ac)] (W.alloc o1) fun e w' => ∃ g' sa' sc' aa' ac' na nn nc oa on oc st, e = .returned (.tuple #[.agg (kC g' sa' sc' aa' ac' (.slice na nn nc) (.slice oa on oc) st).toArray, .int .i64 (TR.chk g : Int)]) ∧ KV (W.alloc o1) g' sa' sc' aa' ac' (.slice na nn nc) (.slice oa on oc) st w' ∧ KR g g' st) := fun o1 =>
    study_k g sa sc aa ac (Bl.refl _) (hg.bl ((Bl.refl W).alloc o1)) hk
  have HXS : Hid (∀ o1 U, Bl (W.alloc o1) U → SA U xa xs ∧ Bl W U ∧ Bl w U) := fun o1 U hU => ⟨(Strs.sa (hx.bl (((Bl.refl W).alloc o1).step hU))).2, ((Bl.refl W).alloc o1).step hU, (HB.alloc o1).step hU⟩
  have HB0 : Hid (Bl w W) := HB
  clear HB hg hk hx
  generalize zk = Z at *
  unfold gv at CS ⊢
  go_enter Try.func19, Try.ntmps19
  go_wp2_with (first
    | (go_at_call 23; refine (CS.out _).mono ?_; clear CS; rintro e w1 ⟨g', sa', sc', aa', ac', na, nn, nc, oa, on, oc, st, rfl, HV, HR⟩; have hkl := kC_size (g := g') (sa := sa') (aa := aa') (sc := sc') (ac := ac') (vn := .slice na nn nc) (vo := .slice oa on oc) HV.len; have hko := kC_one (g := g') (sa := sa') (aa := aa') (sc := sc') (ac := ac') (a1 := na) (n1 := nn) (c1 := nc) (a2 := oa) (n2 := on) (c2 := oc) (st := st); have KP := HV.put Z hz; have HKR : Hid (KR g g' st) := HR; have HN : Hid ((w1.alloc (.cells Z 53)).heap[w1.heap.size]? = some (.cells Z 53 (0, 0))) := heap_alloc_new _ _; clear HV HR; generalize hKC : (kC g' sa' sc' aa' ac' (.slice na nn nc) (.slice oa on oc) st).toArray = KC at *)
    | (refine wpList_store_row rfl 53 _ _ rfl w1.heap.size KC rfl rfl 53 Z HN.out (by rw [hkl]; exact infoK) (by rw [hkl]; exact hz) hko ?_
       generalize hW2 : (w1.alloc (.cells Z 53)).setRow w1.heap.size KC = W2 at *
       generalize hkb : w1.heap.size = kb at *
       clear HN hW2 hkb
       have HKP : Hid _ := KP
       clear KP
       obtain ⟨hsa, hbW, hbw⟩ := HXS.out _ _ HKP.out.v.bl
       have C1 : Hid (Calls Try.prog 33 #[.pointer (some ⟨kb, 0, none⟩), .slice xa xs.length xc] W2 fun e w' => e = .returned (su (TR.setOf (TR.nm g') xs)) ∧ w' = W2) := setOf_at HKP.out xs xa xc hsa hn
       have hch : TR.setOf (TR.nm g') xs < 4294967296 := HKP.out.v.set_lt xs
       have CP : Hid (∀ T, Calls Try.prog 34 #[.pointer (some ⟨kb, 0, none⟩), .func (.func 35) #[] #[.pointer (some ⟨kb, 0, none⟩), .pointer (some ⟨W2.heap.size, 0, none⟩)]] (W2.alloc (.cells #[su (TR.setOf (TR.nm g') xs)] T)) fun e w' => ∃ v, e = .returned v ∧ w'.ownsRow W.heap.size 3 1 v (plcs (drt g' st (TR.setOf (TR.nm g') xs)) g'.2.length).length ((plcs (drt g' st (TR.setOf (TR.nm g') xs)) g'.2.length).map encI) ∧ Bl w w') := fun T => by
         have hal : Bl W2 (W2.alloc (.cells #[su (TR.setOf (TR.nm g') xs)] T)) := (Bl.refl W2).alloc _
         refine (places_x (HKP.out.step hal) _ _ (drt g' st (TR.setOf (TR.nm g') xs)) (enters_of Try.func35 (by kernel_rfl) rfl) (fun U p hp hU => ?_)).mono ?_
         · have hz2 : W2.heap.size < (W2.alloc (.cells #[su (TR.setOf (TR.nm g') xs)] T)).heap.size := by simp
           refine dirty1_at (HKP.out.step (hal.step hU)) W2.heap.size _ p hp hch (Nat.lt_of_lt_of_le hz2 (Below.size hU)) ?_
           rw [Bl.cell hU hz2, Lib.cell_of_heap (heap_alloc_new W2 _)]; rfl
         · rintro e w' ⟨v, rfl, h1, h2⟩
           exact ⟨v, rfl, ownsRow_base h1 (by have := Below.size (hbW.step hal); omega), hbw.step (hal.step h2)⟩
       have hlt := HKP.out.lt
       clear hkl hko hKC HXS hsa hbW hbw hch
       generalize hCH : TR.setOf (TR.nm g') xs = ch at *
       have HCH : Hid (TR.setOf (TR.nm g') xs = ch) := hCH
       clear hCH)
    | (go_at_call 33; refine C1.out.mono ?_; clear C1; rintro e w' ⟨rfl, hw'⟩; rw [hw']; clear hw' w')
    | (go_at_call 34; refine (CP.out _).mono ?_; clear CP; rintro e w5 ⟨v5, rfl, ho5, hb5⟩; have HO5 : Hid _ := ho5; have HB5 : Hid _ := hb5; clear ho5 hb5))
  go_ret
  exact ⟨_, g', st, rfl, HKR.out, by rw [HCH.out]; exact HO5.out, HB5.out⟩
/-- what Dirty answers -/
def drL (g : RC.Gr) (xs : List (List UInt8)) : List Nat := if TR.chk g = 0 then plcs (drt g (TR.fin g) (TR.setOf (TR.nm g) xs)) g.2.length else []
theorem KR.dirty {g g' : RC.Gr} {st : TR.St} (h : KR g g' st) (xs : List (List UInt8)) : plcs (drt g' st (TR.setOf (TR.nm g') xs)) g'.2.length = drL g xs := by
  unfold drL
  rcases h with ⟨h, rfl, rfl⟩ | ⟨h, rfl, rfl⟩
  · rw [if_pos (TR.chk_zero.2 h)]
  · rw [if_neg h]; rfl
theorem Dirty_x (g : RC.Gr) (sa : Option Addr) (sc : Nat) (aa : Option Addr) (ac : Nat) (xs : List (List UInt8)) (xa : Option Addr) (xc : Nat) {w W : World} (HB : Bl w W) (hg : GA W.heap.size W g sa sc aa ac) (hk : grOk g) (hx : Strs W.heap.size W (.slice xa xs.length xc) xs) (hn : xs.length ≤ maxLen) :
    Calls Try.prog 19 #[.agg (gv g sa sc aa ac), .slice xa xs.length xc] W fun e w' => ∃ a c, e = .returned (.slice a (drL g xs).length c) ∧ IA w' a (drL g xs) ∧ Bl w w' := by
  refine (Dirty_k g sa sc aa ac xs xa xc HB hg hk hx hn).mono ?_
  rintro e w' ⟨v, g', st, rfl, hr, ho, hb⟩
  rw [hr.dirty] at ho
  obtain ⟨a, c, rfl, hi⟩ := ia_of ho
  exact ⟨a, c, rfl, hi, hb⟩
end Go.Proofs.Ythpdmeoljdmncaa
