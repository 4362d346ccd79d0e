/- The texts Z9 Z10 Z11 TM4 CMa as one. -/
import Derived.Test.YtoehdohibdpgnaaGreatDoorZB
import Derived.Lib.OwnBridge
import Derived.Test.YtoehdohibdpgnaaGreatDoorTM3
import Derived.Test.YtoehdohibdpgnaaGreatDoorOMath
/- trellis: namesIn, slices.Sort at a row of one's own, Needs. -/
namespace Go.Proofs.YtoehdohibdpgnaaGreatDoor
open Go.RowKit
set_option linter.unusedVariables false
set_option linter.unusedSimpArgs false

/-- the names of a set, among the first k -/
def nin (l : List (List UInt8)) (s k : Nat) : List (List UInt8) := (List.range k).filterMap fun i => if s.testBit i then l[i]? else none
theorem nin_succ (l : List (List UInt8)) (s k : Nat) (t : List UInt8) (h : l[k]? = some t) : nin l s (k + 1) = nin l s k ++ (if s.testBit k then [t] else []) := by
  unfold nin
  rw [List.range_succ, List.filterMap_append]
  congr 1
  by_cases hb : s.testBit k = true
  · simp [hb, h]
  · simp [hb]
theorem nin_le (l : List (List UInt8)) (s k : Nat) : (nin l s k).length ≤ k := by
  unfold nin
  have := List.length_filterMap_le (fun i => if s.testBit i then l[i]? else none) (List.range k)
  simpa using this
/-- texts, sorted -/
def srt (l : List (List UInt8)) : List (List UInt8) := l.mergeSort fun x y => decide (x ≤ y)
theorem bl_grow (W : World) (n : Nat) (os : Array Obj) : Bl W (Go.Sort.grow (Go.Sort.ahead W n) os) :=
  ⟨rfl, rfl, rfl, by simp [Go.Sort.grow, Go.Sort.ahead], fun k hk => by simp [Go.Sort.grow, Go.Sort.ahead, Array.getElem?_append_left hk]⟩
end Go.Proofs.YtoehdohibdpgnaaGreatDoor

/- trellis: Needs. -/
namespace Go.Proofs.YtoehdohibdpgnaaGreatDoor
open Go.RowKit
set_option linter.unusedVariables false
set_option linter.unusedSimpArgs false

/-- the place of an action of a name -/
def plc (g : RC.Gr) (s : List UInt8) : Option Nat := g.2.findIdx? fun a => decide (a.1 = s)
/-- what Needs answers -/
def ndK (g : RC.Gr) (st : TR.St) (s : List UInt8) : List (List UInt8) := match plc g s with | some p => srt (nin (TR.nm g) (TR.ndAt st.needs p) (TR.nm g).length) | none => []
def ndL (g : RC.Gr) (s : List UInt8) : List (List UInt8) := if TR.chk g = 0 then ndK g (TR.fin g) s else []
theorem KR.needs {g g' : RC.Gr} {st : TR.St} (h : KR g g' st) (s : List UInt8) : ndK g' st s = ndL g s := by
  unfold ndL
  rcases h with ⟨h, rfl, rfl⟩ | ⟨h, rfl, rfl⟩
  · rw [if_pos (TR.chk_zero.2 h)]
  · rw [if_neg h]; rfl

end Go.Proofs.YtoehdohibdpgnaaGreatDoor

/- trellis: places, Dirty. -/
namespace Go.Proofs.YtoehdohibdpgnaaGreatDoor
open Go.RowKit
set_option linter.unusedVariables false
set_option linter.unusedSimpArgs false

/-- those of the first k places of which something holds -/
def plcs (q : Nat → Bool) (k : Nat) : List Nat := (List.range k).filter q
theorem plcs_succ (q : Nat → Bool) (k : Nat) : plcs q (k + 1) = plcs q k ++ (if q k then [k] else []) := by
  unfold plcs
  rw [List.range_succ, List.filter_append]
  congr 1
  by_cases h : q k = true
  · simp [h]
  · simp [h]
theorem plcs_le (q : Nat → Bool) (k : Nat) : (plcs q k).length ≤ k := by
  unfold plcs
  have := List.length_filter_le q (List.range k)
  simpa using this
set_option maxRecDepth 8000 in
set_option maxHeartbeats 2000000 in
theorem places_x {w W : World} {b : Nat} {g : RC.Gr} {sa aa : Option Addr} {sc ac : Nat} {vn vo : Value} {st : TR.St} (h : KX w b g sa sc aa ac vn vo st W) (f : FuncId) (caps : Array Value) (q : Nat → Bool)
    (hent : ∀ args w, (callFunc f args).run Tryz.prog w = .ok (.enter f args) w)
    (hf : ∀ (W' : World) (p : Nat), p < g.2.length → Bl W W' → Calls Tryz.prog f (#[.int .i64 (p : Int)] ++ caps) W' fun e w' => e = .returned (.bool (q p)) ∧ Bl W' w') :
    Calls Tryz.prog 15 #[.pointer (some ⟨b, 0, none⟩), .func (.func f) #[] caps] W fun e w' => ∃ v, e = .returned v ∧ w'.ownsRow W.heap.size 3 1 v (plcs q g.2.length).length ((plcs q g.2.length).map encI) ∧ Bl W w' := by
  have h1 := h.c1
  have hbl := h.lt
  have hl2 := h.v.l2
  have HF0 : Hid (∀ (W' : World) (p : Nat), p < g.2.length → Bl W W' → Calls Tryz.prog f (#[.int .i64 (p : Int)] ++ caps) W' fun e w' => e = .returned (.bool (q p)) ∧ Bl W' w') := hf
  clear h hf
  go_enter Tryz.func15, Tryz.ntmps15
  go_wp2_with fail
  go_loopw [5, 6, 13] (fun u5 u6 u13 wr => ∃ k : Nat, k ≤ g.2.length ∧ u13 = .int .i64 k ∧ wr.ownsRow W.heap.size 3 1 u5 (plcs q k).length ((plcs q k).map encI) ∧ Bl W wr) (fun _ _ u13 _ => g.2.length - (intOf u13).toNat)
  case atStart => exact ⟨0, Nat.zero_le _, rfl, ⟨rfl, Or.inl ⟨rfl, rfl⟩⟩, Bl.refl W⟩
  case round =>
    obtain ⟨k, hk, rfl, ho, hb⟩ := hrel
    have HO : Hid (wr.ownsRow W.heap.size 3 1 u5 (plcs q k).length ((plcs q k).map encI)) := ho
    have HB : Hid (Bl W wr) := hb
    clear ho hb
    by_cases hlt : k < g.2.length
    · have hsu := plcs_succ q k
      have hle := plcs_le q k
      obtain ⟨r, hr⟩ : ∃ r, q k = r := ⟨_, rfl⟩
      have CF : Hid (Calls Tryz.prog f (#[.int .i64 (k : Int)] ++ caps) wr fun e w' => e = .returned (.bool r) ∧ Bl wr w') := by
        show Calls _ _ _ _ _
        rw [← hr]; exact HF0.out wr k hlt HB.out
      rw [hr] at hsu
      clear hr
      cases r
      · have HS : Hid (plcs q (k + 1) = plcs q k) := by show _ = _; rw [hsu]; simp
        clear hsu HF0
        go_wp2_with (go_at_fn f; refine CF.out.mono ?_; clear CF; rintro e w3 ⟨rfl, HB3⟩)
        go_roundw
        case rel => exact ⟨k + 1, by omega, by go_num, by rw [HS.out]; exact ownsRow_belowT HO.out HB3, HB.out.step HB3⟩
        case measure => simp [intOf]; omega
      · have HS : Hid (plcs q (k + 1) = plcs q k ++ [k]) := by show _ = _; rw [hsu]; simp
        clear hsu HF0
        have OWN : Hid (∀ w3, Bl wr w3 → (w3.alloc (.cells #[.int .i64 (k : Int)] 3)).ownsRow W.heap.size 3 1 u5 (plcs q k).length ((plcs q k).map encI)) := fun w3 h3 => ownsRow_belowT HO.out (h3.alloc _)
        have NEW : Hid (∀ w3 : World, (w3.alloc (.cells #[.int .i64 (k : Int)] 3)).cell? ⟨w3.heap.size, 0, none⟩ = some (encI k)) := fun w3 => by
          rw [Lib.cell_of_heap (heap_alloc_new w3 _)]; rfl
        have HSZ : Hid (∀ w3, Bl wr w3 → W.heap.size ≤ (w3.alloc (.cells #[.int .i64 (k : Int)] 3)).heap.size) := fun w3 h3 => by
          have := Below.size (HB.out.step h3)
          simp; omega
        have FIN : Hid (∀ w3 v' w8, Bl wr w3 → w8.ownsRow W.heap.size 3 1 v' (plcs q k ++ [k]).length ((plcs q k ++ [k]).map encI) → (w3.alloc (.cells #[.int .i64 (k : Int)] 3)).grownBy w8 u5.ownBlock → w8.ownsRow W.heap.size 3 1 v' (plcs q (k + 1)).length ((plcs q (k + 1)).map encI) ∧ Bl W w8) := fun w3 v' w8 h0 h3 h4 => by
          rw [HS.out]
          exact ⟨h3, Below.grown ((HB.out.step h0).alloc _) h4 (HSZ.out w3 h0) (fun q hq => (TA.owns_ge HO.out hq).1)⟩
        clear HO
        go_wp2_with (first
          | (go_at_fn f; refine CF.out.mono ?_; clear CF; rintro e w3 ⟨rfl, HB3⟩)
          | (refine wl_appI rfl _ _ rfl W.heap.size (plcs q k) u5 rfl (OWN.out _ HB3) w3.heap.size k rfl (NEW.out _) (HSZ.out _ HB3) (by omega) (fun a' c' w8 ho8 hg8 => ?_); obtain ⟨HO8, HB8⟩ := FIN.out _ _ _ HB3 ho8 hg8; clear FIN OWN NEW HSZ ho8 hg8))
        go_roundw
        case rel =>
          rw [List.length_append] at HO8
          exact ⟨k + 1, by omega, by go_num, HO8, HB8⟩
        case measure => simp [intOf]; omega
    · obtain rfl : k = g.2.length := by omega
      go_wp2_with fail
      go_ret
      exact ⟨_, rfl, HO.out, HB.out⟩

/-- whether the action of a place is dirty -/
def drt (g : RC.Gr) (st : TR.St) (ch p : Nat) : Bool := !decide (TR.ndAt st.needs p &&& ch = 0) || ch.testBit (g.1.length + p)
set_option maxRecDepth 8000 in
set_option maxHeartbeats 2000000 in
theorem dirty1_at {w W : World} {b : Nat} {g : RC.Gr} {sa aa : Option Addr} {sc ac : Nat} {vn vo : Value} {st : TR.St} (h : KX w b g sa sc aa ac vn vo st W) (cb ch p : Nat) (hp : p < g.2.length) (hch : ch < 4294967296) (hcb : cb < W.heap.size) (hc : W.cell? ⟨cb, 0, none⟩ = some (su ch)) :
    Calls Tryz.prog 16 #[.int .i64 (p : Int), .pointer (some ⟨b, 0, none⟩), .pointer (some ⟨cb, 0, none⟩)] W fun e w' => e = .returned (.bool (drt g st ch p)) ∧ Bl W w' := by
  have hl1 := h.v.l1
  have hl2 := h.v.l2
  have hbl := h.lt
  have hcn := h.cn (show p < 12 by omega)
  have hnd := h.v.ndl p
  have KP : Hid (∀ U, Bl W U → U.cell? ⟨b, 5 + p, none⟩ = some (su (TR.ndAt st.needs p)) ∧ U.cell? ⟨cb, 0, none⟩ = some (su ch)) := fun U hU => ⟨by rw [Bl.cell hU hbl]; exact hcn, by rw [Bl.cell hU hcb]; exact hc⟩
  have CM : Hid (∀ U, Bl W U → Calls Tryz.prog 17 #[su (TR.ndAt st.needs p), su ch] U fun e w' => e = .returned (.bool (!decide (TR.ndAt st.needs p &&& ch = 0))) ∧ Bl W w') := fun U hU => by
    refine (meets_at _ _ hnd hch _).mono ?_
    rintro e w' ⟨rfl, rfl⟩
    exact ⟨rfl, hU⟩
  have CN : Hid (∀ U, Bl W U → Calls Tryz.prog 19 #[.pointer (some ⟨b, 0, none⟩), .int .i64 (p : Int)] U fun e w' => e = .returned (.int .i64 ((g.1.length + p : Nat) : Int)) ∧ Bl W w') := fun U hU => by
    refine (number_at (h.step hU) p (by omega)).mono ?_
    rintro e w' ⟨rfl, rfl⟩
    exact ⟨rfl, hU⟩
  have CH : Hid (∀ U, Bl W U → Calls Tryz.prog 18 #[su ch, .int .i64 ((g.1.length + p : Nat) : Int)] U fun e w' => e = .returned (.bool (ch.testBit (g.1.length + p))) ∧ Bl W w') := fun U hU => by
    refine (has_at ch (g.1.length + p) hch (by omega) _).mono ?_
    rintro e w' ⟨rfl, rfl⟩
    exact ⟨rfl, hU⟩
  have HD : Hid (drt g st ch p = (!decide (TR.ndAt st.needs p &&& ch = 0) || ch.testBit (g.1.length + p))) := rfl
  obtain ⟨q1, hq1⟩ : ∃ q, (!decide (TR.ndAt st.needs p &&& ch = 0)) = q := ⟨_, rfl⟩
  obtain ⟨q2, hq2⟩ : ∃ q, ch.testBit (g.1.length + p) = q := ⟨_, rfl⟩
  rw [hq1] at CM HD
  rw [hq2] at CH HD
  have hp12 : (p : Int) < 12 := by omega
  have DR : Hid (Bl W W.drew) := (Bl.refl W).drewN 1
  clear h hq1 hq2 hcn hc
  generalize TR.ndAt st.needs p = nd at *
  generalize g.1.length + p = MM at *
  generalize drt g st ch p = R at *
  cases q1
  · go_enter Tryz.func16, Tryz.ntmps16
    go_wp2_with fail
    refine wp_region_noPanic ?_
    refine wp_region_held_drew (S := fun U => U.cell? ⟨b, 5 + p, none⟩ = some (su nd) ∧ U.cell? ⟨cb, 0, none⟩ = some (su ch)) (by kernel_rfl) (KP.out _ (DR.out)) (fun hHeld => ?_)
    refine wpAnyH_take (i := 0) rfl (by kernel_rfl) (by kernel_rfl) (by kernel_rfl) (fun _ _ _ h => h) (yi_move (by kernel_rfl) rfl rfl) (by assumption) ?_
    simp only [Act.put, List.getElem_toArray, List.getElem_cons_succ, List.getElem_cons_zero, List.setIfInBounds_toArray, List.set_cons_zero, List.set_cons_succ]
    refine wpAnyH_take (i := 1) (v := ?_) rfl (by kernel_rfl) (by kernel_rfl) (by kernel_rfl) (fun _ _ _ h => h) (Or.inl ⟨by kernel_rfl, ?_⟩) (by assumption) ?_
    rotate_left
    · (intro w hSw; (try dsimp only at hSw); go_simp; (try with_reducible rfl))
    simp only [Act.put, List.getElem_toArray, List.getElem_cons_succ, List.getElem_cons_zero, List.setIfInBounds_toArray, List.set_cons_zero, List.set_cons_succ]
    refine wpAnyH_take (i := 2) (v := ?_) rfl (by kernel_rfl) (by kernel_rfl) (by kernel_rfl) (fun _ _ _ h => h) (Or.inl ⟨by kernel_rfl, ?_⟩) (by assumption) ?_
    rotate_left
    · (intro w hSw; (try dsimp only at hSw); go_simp; (try with_reducible rfl))
    simp only [Act.put, List.getElem_toArray, List.getElem_cons_succ, List.getElem_cons_zero, List.setIfInBounds_toArray, List.set_cons_zero, List.set_cons_succ]
    refine wpAnyH_take (i := 3) (v := ?_) rfl (by kernel_rfl) (by kernel_rfl) (by kernel_rfl) (fun _ _ _ h => h) (Or.inl ⟨by kernel_rfl, ?_⟩) (by assumption) ?_
    rotate_left
    · (intro w hSw; (try dsimp only at hSw); go_simp; (try with_reducible rfl))
    simp only [Act.put, List.getElem_toArray, List.getElem_cons_succ, List.getElem_cons_zero, List.setIfInBounds_toArray, List.set_cons_zero, List.set_cons_succ]
    refine wpAnyH_take (i := 4) (v := ?_) rfl (by kernel_rfl) (by kernel_rfl) (by kernel_rfl) (fun _ _ _ h => h) (Or.inl ⟨by kernel_rfl, ?_⟩) (by assumption) ?_
    rotate_left
    · (intro w hSw; (try dsimp only at hSw); go_simp; (try with_reducible rfl))
    simp only [Act.put, List.getElem_toArray, List.getElem_cons_succ, List.getElem_cons_zero, List.setIfInBounds_toArray, List.set_cons_zero, List.set_cons_succ]
    refine wpAnyH_ready (rs := [5]) (by kernel_rfl) (by simp) ?_
    refine AllReadyH.cons (o := _) rfl (fun K hK => ?_) AllReadyH.nil
    go_simp
    go_at_call 17; refine (CM.out _ DR.out).mono ?_; rintro e w' ⟨rfl, HB6⟩
    refine hK.out _ _ (KP.out _ (HB6)) (fun hHeld => ?_)
    clear hK K
    (try simp only [Act.put, List.getElem_toArray, List.getElem_cons_succ, List.getElem_cons_zero, List.setIfInBounds_toArray, List.set_cons_zero, List.set_cons_succ])
    refine wpAnyH_take (i := 6) rfl (by kernel_rfl) (by kernel_rfl) (by kernel_rfl) (fun _ _ _ h => h) (yi_move (by kernel_rfl) rfl rfl) (by assumption) ?_
    simp only [Act.put, List.getElem_toArray, List.getElem_cons_succ, List.getElem_cons_zero, List.setIfInBounds_toArray, List.set_cons_zero, List.set_cons_succ]
    refine wpAnyH_take (i := 7) (v := ?_) rfl (by kernel_rfl) (by kernel_rfl) (by kernel_rfl) (fun _ _ _ h => h) (Or.inl ⟨by kernel_rfl, ?_⟩) (by assumption) ?_
    rotate_left
    · (intro w hSw; (try dsimp only at hSw); go_simp; (try with_reducible rfl))
    simp only [Act.put, List.getElem_toArray, List.getElem_cons_succ, List.getElem_cons_zero, List.setIfInBounds_toArray, List.set_cons_zero, List.set_cons_succ]
    refine wpAnyH_take (i := 8) rfl (by kernel_rfl) (by kernel_rfl) (by kernel_rfl) (fun _ _ _ h => h) (yi_move (by kernel_rfl) rfl rfl) (by assumption) ?_
    simp only [Act.put, List.getElem_toArray, List.getElem_cons_succ, List.getElem_cons_zero, List.setIfInBounds_toArray, List.set_cons_zero, List.set_cons_succ]
    refine wpAnyH_ready (rs := [9]) (by kernel_rfl) (by simp) ?_
    refine AllReadyH.cons (o := _) rfl (fun K hK => ?_) AllReadyH.nil
    go_simp
    go_at_call 19; refine (CN.out _ HB6).mono ?_; rintro e w' ⟨rfl, HB10⟩
    refine hK.out _ _ (KP.out _ (HB10)) (fun hHeld => ?_)
    clear hK K
    (try simp only [Act.put, List.getElem_toArray, List.getElem_cons_succ, List.getElem_cons_zero, List.setIfInBounds_toArray, List.set_cons_zero, List.set_cons_succ])
    refine wpAnyH_ready (rs := [10]) (by kernel_rfl) (by simp) ?_
    refine AllReadyH.cons (o := _) rfl (fun K hK => ?_) AllReadyH.nil
    go_simp
    go_at_call 18; refine (CH.out _ HB10).mono ?_; rintro e w' ⟨rfl, HB11⟩
    refine hK.out _ _ (KP.out _ (HB11)) (fun hHeld => ?_)
    clear hK K
    (try simp only [Act.put, List.getElem_toArray, List.getElem_cons_succ, List.getElem_cons_zero, List.setIfInBounds_toArray, List.set_cons_zero, List.set_cons_succ])
    refine wpAnyH_take (i := 11) (v := ?_) rfl (by kernel_rfl) (by kernel_rfl) (by kernel_rfl) (fun _ _ _ h => h) (Or.inl ⟨by kernel_rfl, ?_⟩) (by assumption) ?_
    rotate_left
    · (intro w hSw; (try dsimp only at hSw); go_simp; (try with_reducible rfl))
    simp only [Act.put, List.getElem_toArray, List.getElem_cons_succ, List.getElem_cons_zero, List.setIfInBounds_toArray, List.set_cons_zero, List.set_cons_succ]
    refine wpAnyH_take (i := 12) rfl (by kernel_rfl) (by kernel_rfl) (by kernel_rfl) (fun _ _ _ h => h) (yi_assign (by kernel_rfl) rfl rfl) (by assumption) ?_
    simp only [Act.put, List.getElem_toArray, List.getElem_cons_succ, List.getElem_cons_zero, List.setIfInBounds_toArray, List.set_cons_zero, List.set_cons_succ]
    refine wpAnyH_done (by kernel_rfl) ?_ _
    refine NoPanic.normal ?_
    go_wp2_with fail
    go_ret
    exact ⟨by rw [HD.out]; rfl, HB11⟩
  · go_enter Tryz.func16, Tryz.ntmps16
    go_wp2_with fail
    refine wp_region_noPanic ?_
    refine wp_region_held_drew (S := fun U => U.cell? ⟨b, 5 + p, none⟩ = some (su nd) ∧ U.cell? ⟨cb, 0, none⟩ = some (su ch)) (by kernel_rfl) (KP.out _ (DR.out)) (fun hHeld => ?_)
    refine wpAnyH_take (i := 0) rfl (by kernel_rfl) (by kernel_rfl) (by kernel_rfl) (fun _ _ _ h => h) (yi_move (by kernel_rfl) rfl rfl) (by assumption) ?_
    simp only [Act.put, List.getElem_toArray, List.getElem_cons_succ, List.getElem_cons_zero, List.setIfInBounds_toArray, List.set_cons_zero, List.set_cons_succ]
    refine wpAnyH_take (i := 1) (v := ?_) rfl (by kernel_rfl) (by kernel_rfl) (by kernel_rfl) (fun _ _ _ h => h) (Or.inl ⟨by kernel_rfl, ?_⟩) (by assumption) ?_
    rotate_left
    · (intro w hSw; (try dsimp only at hSw); go_simp; (try with_reducible rfl))
    simp only [Act.put, List.getElem_toArray, List.getElem_cons_succ, List.getElem_cons_zero, List.setIfInBounds_toArray, List.set_cons_zero, List.set_cons_succ]
    refine wpAnyH_take (i := 2) (v := ?_) rfl (by kernel_rfl) (by kernel_rfl) (by kernel_rfl) (fun _ _ _ h => h) (Or.inl ⟨by kernel_rfl, ?_⟩) (by assumption) ?_
    rotate_left
    · (intro w hSw; (try dsimp only at hSw); go_simp; (try with_reducible rfl))
    simp only [Act.put, List.getElem_toArray, List.getElem_cons_succ, List.getElem_cons_zero, List.setIfInBounds_toArray, List.set_cons_zero, List.set_cons_succ]
    refine wpAnyH_take (i := 3) (v := ?_) rfl (by kernel_rfl) (by kernel_rfl) (by kernel_rfl) (fun _ _ _ h => h) (Or.inl ⟨by kernel_rfl, ?_⟩) (by assumption) ?_
    rotate_left
    · (intro w hSw; (try dsimp only at hSw); go_simp; (try with_reducible rfl))
    simp only [Act.put, List.getElem_toArray, List.getElem_cons_succ, List.getElem_cons_zero, List.setIfInBounds_toArray, List.set_cons_zero, List.set_cons_succ]
    refine wpAnyH_take (i := 4) (v := ?_) rfl (by kernel_rfl) (by kernel_rfl) (by kernel_rfl) (fun _ _ _ h => h) (Or.inl ⟨by kernel_rfl, ?_⟩) (by assumption) ?_
    rotate_left
    · (intro w hSw; (try dsimp only at hSw); go_simp; (try with_reducible rfl))
    simp only [Act.put, List.getElem_toArray, List.getElem_cons_succ, List.getElem_cons_zero, List.setIfInBounds_toArray, List.set_cons_zero, List.set_cons_succ]
    refine wpAnyH_ready (rs := [5]) (by kernel_rfl) (by simp) ?_
    refine AllReadyH.cons (o := _) rfl (fun K hK => ?_) AllReadyH.nil
    go_simp
    go_at_call 17; refine (CM.out _ DR.out).mono ?_; rintro e w' ⟨rfl, HB6⟩
    refine hK.out _ _ (KP.out _ (HB6)) (fun hHeld => ?_)
    clear hK K
    (try simp only [Act.put, List.getElem_toArray, List.getElem_cons_succ, List.getElem_cons_zero, List.setIfInBounds_toArray, List.set_cons_zero, List.set_cons_succ])
    refine wpAnyH_take (i := 6) rfl (by kernel_rfl) (by kernel_rfl) (by kernel_rfl) (fun _ _ _ h => h) (yi_move (by kernel_rfl) rfl rfl) (by assumption) ?_
    simp only [Act.put, List.getElem_toArray, List.getElem_cons_succ, List.getElem_cons_zero, List.setIfInBounds_toArray, List.set_cons_zero, List.set_cons_succ]
    refine wpAnyH_take (i := 7) (v := undef) rfl (by kernel_rfl) (by kernel_rfl) (by kernel_rfl) (fun _ _ _ h => h) (Or.inr ⟨by kernel_rfl, rfl⟩) (by assumption) ?_
    simp only [Act.put, List.getElem_toArray, List.getElem_cons_succ, List.getElem_cons_zero, List.setIfInBounds_toArray, List.set_cons_zero, List.set_cons_succ]
    refine wpAnyH_take (i := 8) (v := undef) rfl (by kernel_rfl) (by kernel_rfl) (by kernel_rfl) (fun _ _ _ h => h) (Or.inr ⟨by kernel_rfl, rfl⟩) (by assumption) ?_
    simp only [Act.put, List.getElem_toArray, List.getElem_cons_succ, List.getElem_cons_zero, List.setIfInBounds_toArray, List.set_cons_zero, List.set_cons_succ]
    refine wpAnyH_take (i := 9) (v := undef) rfl (by kernel_rfl) (by kernel_rfl) (by kernel_rfl) (fun _ _ _ h => h) (Or.inr ⟨by kernel_rfl, rfl⟩) (by assumption) ?_
    simp only [Act.put, List.getElem_toArray, List.getElem_cons_succ, List.getElem_cons_zero, List.setIfInBounds_toArray, List.set_cons_zero, List.set_cons_succ]
    refine wpAnyH_take (i := 10) (v := undef) rfl (by kernel_rfl) (by kernel_rfl) (by kernel_rfl) (fun _ _ _ h => h) (Or.inr ⟨by kernel_rfl, rfl⟩) (by assumption) ?_
    simp only [Act.put, List.getElem_toArray, List.getElem_cons_succ, List.getElem_cons_zero, List.setIfInBounds_toArray, List.set_cons_zero, List.set_cons_succ]
    refine wpAnyH_take (i := 11) (v := ?_) rfl (by kernel_rfl) (by kernel_rfl) (by kernel_rfl) (fun _ _ _ h => h) (Or.inl ⟨by kernel_rfl, ?_⟩) (by assumption) ?_
    rotate_left
    · (intro w hSw; (try dsimp only at hSw); go_simp; (try with_reducible rfl))
    simp only [Act.put, List.getElem_toArray, List.getElem_cons_succ, List.getElem_cons_zero, List.setIfInBounds_toArray, List.set_cons_zero, List.set_cons_succ]
    refine wpAnyH_take (i := 12) rfl (by kernel_rfl) (by kernel_rfl) (by kernel_rfl) (fun _ _ _ h => h) (yi_assign (by kernel_rfl) rfl rfl) (by assumption) ?_
    simp only [Act.put, List.getElem_toArray, List.getElem_cons_succ, List.getElem_cons_zero, List.setIfInBounds_toArray, List.set_cons_zero, List.set_cons_succ]
    refine wpAnyH_done (by kernel_rfl) ?_ _
    refine NoPanic.normal ?_
    go_wp2_with fail
    go_ret
    exact ⟨by rw [HD.out]; rfl, HB6⟩
set_option maxRecDepth 8000 in
set_option maxHeartbeats 4000000 in
theorem Dirty_k (g : RC.Gr) (sa : Option Addr) (sc : Nat) (aa : Option Addr) (ac : Nat) (xs : List (List UInt8)) (xa : Option Addr) (xc : Nat) {w W : World} (HB : Bl w W) (hg : GA W.heap.size W g sa sc aa ac) (hk : grOk g) (hx : Strs W.heap.size W (.slice xa xs.length xc) xs) (hn : xs.length ≤ maxLen) :
    Calls Tryz.prog 8 #[.agg (gv g sa sc aa ac), .slice xa xs.length xc] W fun e w' => ∃ v g' st, e = .returned v ∧ KR g g' st ∧ w'.ownsRow W.heap.size 3 1 v (plcs (drt g' st (TR.setOf (TR.nm g') xs)) g'.2.length).length ((plcs (drt g' st (TR.setOf (TR.nm g') xs)) g'.2.length).map encI) ∧ Bl w w' := by
  have hz := zk_size
  have hzz : ∀ W, (zeroValue 63).run Tryz.prog W = .ok (.agg zk) W := zeroK
  have CS : Hid (∀ o1, Calls Tryz.prog 13 #[.agg (gv g sa sc aa ac)] (W.alloc o1) fun e w' => ∃ g' sa' sc' aa' ac' na nn nc oa on oc st, e = .returned (.tuple #[.agg (kC g' sa' sc' aa' ac' (.slice na nn nc) (.slice oa on oc) st).toArray, .int .i64 (TR.chk g : Int)]) ∧ KV (W.alloc o1) g' sa' sc' aa' ac' (.slice na nn nc) (.slice oa on oc) st w' ∧ KR g g' st) := fun o1 =>
    study_k g sa sc aa ac (Bl.refl _) (hg.bl ((Bl.refl W).alloc o1)) hk
  have HXS : Hid (∀ o1 U, Bl (W.alloc o1) U → SA U xa xs ∧ Bl W U ∧ Bl w U) := fun o1 U hU => ⟨(Strs.sa (hx.bl (((Bl.refl W).alloc o1).step hU))).2, ((Bl.refl W).alloc o1).step hU, (HB.alloc o1).step hU⟩
  have HB0 : Hid (Bl w W) := HB
  clear HB hg hk hx
  generalize zk = Z at *
  unfold gv at CS ⊢
  go_enter Tryz.func8, Tryz.ntmps8
  go_wp2_with (first
    | (go_at_call 13; refine (CS.out _).mono ?_; clear CS; rintro e w1 ⟨g', sa', sc', aa', ac', na, nn, nc, oa, on, oc, st, rfl, HV, HR⟩; have hkl := kC_size (g := g') (sa := sa') (aa := aa') (sc := sc') (ac := ac') (vn := .slice na nn nc) (vo := .slice oa on oc) HV.len; have hko := kC_one (g := g') (sa := sa') (aa := aa') (sc := sc') (ac := ac') (a1 := na) (n1 := nn) (c1 := nc) (a2 := oa) (n2 := on) (c2 := oc) (st := st); have KP := HV.put Z hz; have HKR : Hid (KR g g' st) := HR; have HN : Hid ((w1.alloc (.cells Z 63)).heap[w1.heap.size]? = some (.cells Z 63 (0, 0))) := heap_alloc_new _ _; clear HV HR; generalize hKC : (kC g' sa' sc' aa' ac' (.slice na nn nc) (.slice oa on oc) st).toArray = KC at *)
    | (refine wpList_store_row rfl 63 _ _ rfl w1.heap.size KC rfl rfl 63 Z HN.out (by rw [hkl]; exact infoK) (by rw [hkl]; exact hz) hko ?_
       generalize hW2 : (w1.alloc (.cells Z 63)).setRow w1.heap.size KC = W2 at *
       generalize hkb : w1.heap.size = kb at *
       clear HN hW2 hkb
       have HKP : Hid _ := KP
       clear KP
       obtain ⟨hsa, hbW, hbw⟩ := HXS.out _ _ HKP.out.v.bl
       have C1 : Hid (Calls Tryz.prog 14 #[.pointer (some ⟨kb, 0, none⟩), .slice xa xs.length xc] W2 fun e w' => e = .returned (su (TR.setOf (TR.nm g') xs)) ∧ w' = W2) := setOf_at HKP.out xs xa xc hsa hn
       have hch : TR.setOf (TR.nm g') xs < 4294967296 := HKP.out.v.set_lt xs
       have CP : Hid (∀ T, Calls Tryz.prog 15 #[.pointer (some ⟨kb, 0, none⟩), .func (.func 16) #[] #[.pointer (some ⟨kb, 0, none⟩), .pointer (some ⟨W2.heap.size, 0, none⟩)]] (W2.alloc (.cells #[su (TR.setOf (TR.nm g') xs)] T)) fun e w' => ∃ v, e = .returned v ∧ w'.ownsRow W.heap.size 3 1 v (plcs (drt g' st (TR.setOf (TR.nm g') xs)) g'.2.length).length ((plcs (drt g' st (TR.setOf (TR.nm g') xs)) g'.2.length).map encI) ∧ Bl w w') := fun T => by
         have hal : Bl W2 (W2.alloc (.cells #[su (TR.setOf (TR.nm g') xs)] T)) := (Bl.refl W2).alloc _
         refine (places_x (HKP.out.step hal) _ _ (drt g' st (TR.setOf (TR.nm g') xs)) (enters_of Tryz.func16 (by kernel_rfl) rfl) (fun U p hp hU => ?_)).mono ?_
         · have hz2 : W2.heap.size < (W2.alloc (.cells #[su (TR.setOf (TR.nm g') xs)] T)).heap.size := by simp
           refine dirty1_at (HKP.out.step (hal.step hU)) W2.heap.size _ p hp hch (Nat.lt_of_lt_of_le hz2 (Below.size hU)) ?_
           rw [Bl.cell hU hz2, Lib.cell_of_heap (heap_alloc_new W2 _)]; rfl
         · rintro e w' ⟨v, rfl, h1, h2⟩
           exact ⟨v, rfl, ownsRow_base h1 (by have := Below.size (hbW.step hal); omega), hbw.step (hal.step h2)⟩
       have hlt := HKP.out.lt
       clear hkl hko hKC HXS hsa hbW hbw hch
       generalize hCH : TR.setOf (TR.nm g') xs = ch at *
       have HCH : Hid (TR.setOf (TR.nm g') xs = ch) := hCH
       clear hCH)
    | (go_at_call 14; refine C1.out.mono ?_; clear C1; rintro e w' ⟨rfl, hw'⟩; rw [hw']; clear hw' w')
    | (go_at_call 15; refine (CP.out _).mono ?_; clear CP; rintro e w5 ⟨v5, rfl, ho5, hb5⟩; have HO5 : Hid _ := ho5; have HB5 : Hid _ := hb5; clear ho5 hb5))
  go_ret
  exact ⟨_, g', st, rfl, HKR.out, by rw [HCH.out]; exact HO5.out, HB5.out⟩
/-- what Dirty answers -/
def drL (g : RC.Gr) (xs : List (List UInt8)) : List Nat := if TR.chk g = 0 then plcs (drt g (TR.fin g) (TR.setOf (TR.nm g) xs)) g.2.length else []
theorem KR.dirty {g g' : RC.Gr} {st : TR.St} (h : KR g g' st) (xs : List (List UInt8)) : plcs (drt g' st (TR.setOf (TR.nm g') xs)) g'.2.length = drL g xs := by
  unfold drL
  rcases h with ⟨h, rfl, rfl⟩ | ⟨h, rfl, rfl⟩
  · rw [if_pos (TR.chk_zero.2 h)]
  · rw [if_neg h]; rfl
theorem Dirty_x (g : RC.Gr) (sa : Option Addr) (sc : Nat) (aa : Option Addr) (ac : Nat) (xs : List (List UInt8)) (xa : Option Addr) (xc : Nat) {w W : World} (HB : Bl w W) (hg : GA W.heap.size W g sa sc aa ac) (hk : grOk g) (hx : Strs W.heap.size W (.slice xa xs.length xc) xs) (hn : xs.length ≤ maxLen) :
    Calls Tryz.prog 8 #[.agg (gv g sa sc aa ac), .slice xa xs.length xc] W fun e w' => ∃ a c, e = .returned (.slice a (drL g xs).length c) ∧ IA w' a (drL g xs) ∧ Bl w w' := by
  refine (Dirty_k g sa sc aa ac xs xa xc HB hg hk hx hn).mono ?_
  rintro e w' ⟨v, g', st, rfl, hr, ho, hb⟩
  rw [hr.dirty] at ho
  obtain ⟨a, c, rfl, hi⟩ := ia_of ho
  exact ⟨a, c, rfl, hi, hb⟩
end Go.Proofs.YtoehdohibdpgnaaGreatDoor

/- What an action needs, what is dirty: on lists, of a build that can be. -/
namespace Go.Proofs.YtoehdohibdpgnaaGreatDoor
open RC TR
set_option linter.unusedVariables false

theorem mem_nin {l : List (List UInt8)} {s : Nat} {x : List UInt8} : x ∈ nin l s l.length ↔ ∃ j, l[j]? = some x ∧ s.testBit j = true := by
  unfold nin
  rw [List.mem_filterMap]
  constructor
  · rintro ⟨j, hj, h⟩
    by_cases hb : s.testBit j = true
    · rw [if_pos hb] at h; exact ⟨j, h, hb⟩
    · rw [if_neg hb] at h; simp at h
  · rintro ⟨j, h, hb⟩
    refine ⟨j, List.mem_range.2 (List.getElem?_eq_some_iff.1 h).1, ?_⟩
    rw [if_pos hb]; exact h
theorem nin_nodup {l : List (List UInt8)} (hl : l.Nodup) (s k : Nat) : (nin l s k).Nodup := by
  induction k with
  | zero => simp [nin]
  | succ k ih =>
    cases h : l[k]? with
    | none =>
      have e : nin l s (k + 1) = nin l s k := by
        unfold nin
        rw [List.range_succ, List.filterMap_append]
        simp [h]
      rw [e]; exact ih
    | some t =>
      rw [nin_succ l s k t h]
      by_cases hb : s.testBit k = true
      · rw [if_pos hb, List.nodup_append]
        refine ⟨ih, by simp, fun x hx y hy e => ?_⟩
        simp at hy
        subst hy; subst e
        unfold nin at hx
        obtain ⟨j, hj, hx⟩ := List.mem_filterMap.1 hx
        rw [List.mem_range] at hj
        by_cases hb2 : s.testBit j = true
        · rw [if_pos hb2] at hx
          have := getElem?_inj hl hx h
          omega
        · rw [if_neg hb2] at hx; simp at hx
      · rw [if_neg hb]; simpa using ih
theorem le_tr (a b c : List UInt8) : decide (a ≤ b) = true → decide (b ≤ c) = true → decide (a ≤ c) = true := by
  simp only [decide_eq_true_eq]; exact List.le_trans
theorem le_tot (a b : List UInt8) : (decide (a ≤ b) || decide (b ≤ a)) = true := by
  simp only [Bool.or_eq_true, decide_eq_true_eq]; exact List.le_total a b
theorem mem_srt {l : List (List UInt8)} {s : List UInt8} : s ∈ srt l ↔ s ∈ l := by unfold srt; exact List.mem_mergeSort
theorem srt_lt {l : List (List UInt8)} (hl : l.Nodup) : (srt l).Pairwise (· < ·) := by
  have h1 : (srt l).Pairwise (fun a b => decide (a ≤ b) = true) := List.pairwise_mergeSort le_tr le_tot l
  have h2 : (srt l).Nodup := (List.mergeSort_perm l _).nodup_iff.2 hl
  unfold List.Nodup at h2
  refine (List.Pairwise.and h1 h2).imp ?_
  rintro a b ⟨h3, h4⟩
  have h3' : a ≤ b := by simpa using h3
  exact Classical.byContradiction fun hn => h4 (List.le_antisymm h3' (List.not_lt.1 hn))
theorem pw_at {l : List (List UInt8)} (h : l.Pairwise (· < ·)) {k : Nat} {a b : List UInt8} (ha : l[k]? = some a) (hb : l[k + 1]? = some b) : a < b := by
  obtain ⟨h1, e1⟩ := List.getElem?_eq_some_iff.1 ha
  obtain ⟨h2, e2⟩ := List.getElem?_eq_some_iff.1 hb
  rw [← e1, ← e2]
  exact List.pairwise_iff_getElem.1 h k (k + 1) h1 h2 (by omega)

theorem plc_of {g : Gr} (hn : (nm g).Nodup) {p : Nat} {t : Ac} (ht : g.2[p]? = some t) : plc g t.1 = some p := by
  unfold plc
  obtain ⟨hp, e⟩ := List.getElem?_eq_some_iff.1 ht
  rw [List.findIdx?_eq_some_iff_getElem]
  refine ⟨hp, by simp [e], fun j hj => ?_⟩
  simp only [decide_eq_true_eq]
  intro h
  have hj' : j < g.2.length := by omega
  have := act_inj hn (List.getElem?_eq_getElem hj') ht h
  omega
theorem plc_some {g : Gr} {p : Nat} {s : List UInt8} (h : plc g s = some p) : ∃ t, g.2[p]? = some t ∧ t.1 = s := by
  obtain ⟨hp, h1, _⟩ := List.findIdx?_eq_some_iff_getElem.1 h
  exact ⟨g.2[p], List.getElem?_eq_getElem hp, by simpa using h1⟩
theorem ndL_of {g : Gr} (h : TR.Good g) {p : Nat} {t : Ac} (ht : g.2[p]? = some t) : ndL g t.1 = srt (nin (nm g) (ndAt (fin g).needs p) (nm g).length) := by
  unfold ndL
  rw [if_pos (chk_zero.2 h)]
  unfold ndK
  rw [plc_of h.nd ht]
theorem mem_ndL {g : Gr} (h : TR.Good g) {p : Nat} {t : Ac} (ht : g.2[p]? = some t) {s : List UInt8} : s ∈ ndL g t.1 ↔ ∃ j, (nm g)[j]? = some s ∧ (ndAt (fin g).needs p).testBit j = true := by
  rw [ndL_of h ht, mem_srt, mem_nin]
theorem ndL_lt {g : Gr} (h : TR.Good g) {p : Nat} {t : Ac} (ht : g.2[p]? = some t) : (ndL g t.1).Pairwise (· < ·) := by
  rw [ndL_of h ht]; exact srt_lt (nin_nodup h.nd _ _)
theorem ndL_len {g : Gr} (h : TR.Good g) (s : List UInt8) : (ndL g s).length ≤ 20 := by
  unfold ndL
  rw [if_pos (chk_zero.2 h)]
  unfold ndK
  cases plc g s with
  | none => simp
  | some p =>
    have h1 := nin_le (nm g) (ndAt (fin g).needs p) (nm g).length
    have h2 := nm_len g
    have h3 := h.le
    simp only [srt, List.length_mergeSort]
    omega
/-- what it needs are its inputs, and what these need -/
theorem nd_from {g : Gr} (h : TR.Good g) {p : Nat} {t : Ac} (ht : g.2[p]? = some t) {s : List UInt8} (hs : s ∈ ndL g t.1) : s ∈ t.2.1 ∨ ∃ u ∈ t.2.1, s ∈ ndL g u := by
  obtain ⟨j, hj, hb⟩ := (mem_ndL h ht).1 hs
  have hp : p < g.2.length := (List.getElem?_eq_some_iff.1 ht).1
  rw [h.inv.need p (h.all hp) j, insO_of ht] at hb
  rcases hb with hb | ⟨o, ho, hb, hc⟩
  · obtain ⟨x, hx, hpx⟩ := setOf_t.1 hb
    have := (pos_some hpx).1
    rw [hj] at this
    cases this
    exact Or.inl hx
  · obtain ⟨x, hx, hpx⟩ := setOf_t.1 hb
    have hol := h.inv.lt o ho
    have hot := List.getElem?_eq_getElem hol
    have h1 := (pos_some hpx).1
    rw [nm_act hot] at h1
    have e : g.2[o].1 = x := Option.some.inj h1
    refine Or.inr ⟨x, hx, ?_⟩
    rw [← e]
    exact (mem_ndL h hot).2 ⟨j, hj, hc⟩
theorem nd_ins {g : Gr} (h : TR.Good g) {p : Nat} {t : Ac} (ht : g.2[p]? = some t) {s : List UInt8} (hs : s ∈ t.2.1) : s ∈ ndL g t.1 := by
  obtain ⟨j, hj⟩ := pos_mem (miss_not h.ms t (List.mem_of_getElem? ht) s hs)
  have hp : p < g.2.length := (List.getElem?_eq_some_iff.1 ht).1
  refine (mem_ndL h ht).2 ⟨j, (pos_some hj).1, ?_⟩
  rw [h.inv.need p (h.all hp) j, insO_of ht]
  exact Or.inl (setOf_t.2 ⟨s, hs, hj⟩)
/-- what is needed stands ahead -/
theorem nd_ahead {g : Gr} (h : TR.Good g) : ∀ (n j o : Nat), j < n → (fin g).order[j]? = some o → ∀ i, (ndAt (fin g).needs o).testBit i = true → i < g.1.length ∨ ∃ j' o', j' < j ∧ (fin g).order[j']? = some o' ∧ i = g.1.length + o'
  | 0, j, o, hj, _, _, _ => by omega
  | n + 1, j, o, hj, ho, i, hb => by
    have hin : ∀ k, (setOf (nm g) (insO g o)).testBit k = true → k < g.1.length ∨ ∃ j' o', j' < j ∧ (fin g).order[j']? = some o' ∧ k = g.1.length + o' := fun k hk => by
      obtain ⟨x, hx, hpx⟩ := setOf_t.1 hk
      rcases h.inv.topo j o ho x hx with h1 | ⟨j', o', b, h1, h2, h3, h4⟩
      · refine Or.inl ?_
        obtain ⟨q, hq, e⟩ := List.getElem_of_mem h1
        have h2 : (nm g)[q]? = some x := by rw [nm_src hq, List.getElem?_eq_getElem hq, e]
        rw [pos_of h.nd h2] at hpx
        simp at hpx; omega
      · refine Or.inr ⟨j', o', h1, h2, ?_⟩
        rw [← h4, pos_act h.nd h3] at hpx
        simp at hpx; omega
    rw [h.inv.need o (List.mem_of_getElem? ho) i] at hb
    rcases hb with hb | ⟨o2, ho2, hb, hc⟩
    · exact hin i hb
    · rcases hin _ hb with h1 | ⟨j', o', h1, h2, h3⟩
      · omega
      · obtain rfl : o2 = o' := by omega
        rcases nd_ahead h n j' o2 (by omega) h2 i hc with h4 | ⟨j2, o3, h4, h5, h6⟩
        · exact Or.inl h4
        · exact Or.inr ⟨j2, o3, by omega, h5, h6⟩
theorem nd_self {g : Gr} (h : TR.Good g) {p : Nat} {t : Ac} (ht : g.2[p]? = some t) : t.1 ∉ ndL g t.1 := fun hs => by
  obtain ⟨j, hj, hb⟩ := (mem_ndL h ht).1 hs
  have := getElem?_inj h.nd hj (nm_act ht)
  subst this
  have hp : p < g.2.length := (List.getElem?_eq_some_iff.1 ht).1
  obtain ⟨k, hk, e⟩ := List.getElem_of_mem (h.all hp)
  have hko : (fin g).order[k]? = some p := by rw [List.getElem?_eq_getElem hk, e]
  rcases nd_ahead h (k + 1) k p (by omega) hko _ hb with h1 | ⟨j', o', h1, h2, h3⟩
  · omega
  · obtain rfl : p = o' := by omega
    have h4 := (List.getElem?_eq_some_iff.1 h2).1
    have : j' = k := (List.getElem?_inj h4 h.inv.nd).1 (h2.trans hko.symm)
    omega
/-- dirty is what has one of the names, or needs one -/
theorem drt_iff {g : Gr} (h : TR.Good g) {p : Nat} {t : Ac} (ht : g.2[p]? = some t) (xs : List (List UInt8)) : drt g (fin g) (setOf (nm g) xs) p = (decide (t.1 ∈ xs) || (ndL g t.1).any fun s => decide (s ∈ xs)) := by
  have e1 : (setOf (nm g) xs).testBit (g.1.length + p) = decide (t.1 ∈ xs) := by
    rw [Bool.eq_iff_iff, setOf_t, decide_eq_true_eq]
    constructor
    · rintro ⟨x, hx, hpx⟩
      have h1 := (pos_some hpx).1
      rw [nm_act ht] at h1
      rw [Option.some.inj h1]; exact hx
    · intro hx; exact ⟨t.1, hx, pos_act h.nd ht⟩
  have e2 : (!decide (ndAt (fin g).needs p &&& setOf (nm g) xs = 0)) = (ndL g t.1).any fun s => decide (s ∈ xs) := by
    rw [Bool.eq_iff_iff, Bool.not_eq_true', decide_eq_false_iff_not, and_zero, List.any_eq_true]
    constructor
    · intro hn
      obtain ⟨i, hi⟩ := Classical.not_forall.1 hn
      obtain ⟨h1, h2⟩ := Classical.not_not.1 hi
      obtain ⟨x, hx, hpx⟩ := setOf_t.1 h2
      exact ⟨x, (mem_ndL h ht).2 ⟨i, (pos_some hpx).1, h1⟩, by simpa using hx⟩
    · rintro ⟨x, hx, hx2⟩ hn
      obtain ⟨j, hj, hb⟩ := (mem_ndL h ht).1 hx
      exact hn j ⟨hb, setOf_t.2 ⟨x, by simpa using hx2, pos_of h.nd hj⟩⟩
  unfold drt
  rw [e1, e2, Bool.or_comm]

theorem plcs_get (q : Nat → Bool) : ∀ (n i : Nat), i < n → (if q i = true then (plcs q n)[(plcs q i).length]? = some i else (plcs q n)[(plcs q i).length]? ≠ some i)
  | 0, i, h => by omega
  | n + 1, i, h => by
    rcases (by omega : i < n ∨ i = n) with h' | rfl
    · have ih := plcs_get q n i h'
      rw [plcs_succ]
      by_cases hq : q i = true
      · rw [if_pos hq] at ih ⊢
        rw [List.getElem?_append_left (List.getElem?_eq_some_iff.1 ih).1]; exact ih
      · rw [if_neg hq] at ih ⊢
        intro hc
        rcases Nat.lt_or_ge (plcs q i).length (plcs q n).length with hl | hl
        · rw [List.getElem?_append_left hl] at hc; exact ih hc
        · rw [List.getElem?_append_right hl] at hc
          have := List.mem_of_getElem? hc
          split at this
          · simp at this; omega
          · simp at this
    · rw [plcs_succ]
      by_cases hq : q i = true
      · rw [if_pos hq, if_pos hq, List.getElem?_append_right (Nat.le_refl _)]; simp
      · rw [if_neg hq, if_neg hq]; simp
end Go.Proofs.YtoehdohibdpgnaaGreatDoor

/- What isn't dirty comes to the same: on lists. -/
namespace Go.Proofs.YtoehdohibdpgnaaGreatDoor
open RC TR
set_option linter.unusedVariables false

/-- what an input needs is needed -/
theorem nd_up {g : Gr} (h : TR.Good g) {p o : Nat} {t u : Ac} (ht : g.2[p]? = some t) (hu : g.2[o]? = some u) (hx : u.1 ∈ t.2.1) {s : List UInt8} (hs : s ∈ ndL g u.1) : s ∈ ndL g t.1 := by
  obtain ⟨j, hj, hb⟩ := (mem_ndL h hu).1 hs
  have hp : p < g.2.length := (List.getElem?_eq_some_iff.1 ht).1
  have ho : o < g.2.length := (List.getElem?_eq_some_iff.1 hu).1
  refine (mem_ndL h ht).2 ⟨j, hj, ?_⟩
  rw [h.inv.need p (h.all hp) j, insO_of ht]
  exact Or.inr ⟨o, h.all ho, setOf_t.2 ⟨u.1, hx, pos_act h.nd hu⟩, hb⟩
/-- an action that is dirty -/
def dtA (g : Gr) (xs : List (List UInt8)) (t : Ac) : Bool := decide (t.1 ∈ xs) || (ndL g t.1).any fun s => decide (s ∈ xs)
theorem dtA_no {g : Gr} {xs : List (List UInt8)} {t : Ac} (h : dtA g xs t = false) : t.1 ∉ xs ∧ ∀ s ∈ ndL g t.1, s ∉ xs := by
  unfold dtA at h
  rw [Bool.or_eq_false_iff, decide_eq_false_iff_not, List.any_eq_false] at h
  exact ⟨h.1, fun s hs e => h.2 s hs (decide_eq_true e)⟩
theorem dtA_of {g : Gr} {xs : List (List UInt8)} {t : Ac} (h1 : t.1 ∉ xs) (h2 : ∀ s ∈ ndL g t.1, s ∉ xs) : dtA g xs t = false := by
  unfold dtA
  rw [Bool.or_eq_false_iff, decide_eq_false_iff_not, List.any_eq_false]
  exact ⟨h1, fun s hs e => h2 s hs (of_decide_eq_true e)⟩
/-- two rows of sources of the same names, the same blobs but for those of xs -/
structure Sm (xs : List (List UInt8)) (l m : List O.So) : Prop where
  nm : O.nms m = O.nms l
  bl : ∀ (k : Nat) a b, l[k]? = some a → m[k]? = some b → a.1 ∉ xs → a.2 = b.2
theorem clean_at {g : Gr} {l m : List O.So} (hl : O.Ok g l) (hm : O.Ok g m) {xs : List (List UInt8)} (h : Sm xs l m) : ∀ (n j o : Nat) (t : Ac), j < n → (fin g).order[j]? = some o → g.2[o]? = some t → dtA g xs t = false → O.ins (O.baked g l) t.2.1 = O.ins (O.baked g m) t.2.1
  | 0, j, o, t, hj, _, _, _ => by omega
  | n + 1, j, o, t, hj, ho, ht, hd => by
    have hg := hl.good
    obtain ⟨hd1, hd2⟩ := dtA_no hd
    unfold O.ins
    refine List.map_congr_left fun x hx => ?_
    have hti : x ∈ insO g o := by rw [insO_of ht]; exact hx
    have hxn := nd_ins hg ht hx
    rcases hg.inv.topo j o ho x hti with h1 | ⟨j', o', u, h1, h2, h3, h4⟩
    · obtain ⟨a, ha, ea⟩ := List.mem_map.1 (hl.all x h1)
      obtain ⟨k, hk⟩ := List.mem_iff_getElem?.1 ha
      have hnk : (O.nms m)[k]? = some a.1 := by rw [h.nm]; unfold O.nms; rw [List.getElem?_map, hk]; rfl
      unfold O.nms at hnk
      rw [List.getElem?_map, Option.map_eq_some_iff] at hnk
      obtain ⟨b, hb, eb⟩ := hnk
      have e := h.bl k a b hk hb (by rw [ea]; exact hd2 x hxn)
      rw [← ea, O.gt_source hl ha, ← eb, O.gt_source hm (List.mem_of_getElem? hb), e]
    · have hdu : dtA g xs u = false := dtA_of (by rw [h4]; exact hd2 x hxn) (fun s hs => hd2 s (nd_up hg ht h3 (by rw [h4]; exact hx) hs))
      have ih := clean_at hl hm h n j' o' u (by omega) h2 h3 hdu
      rw [← h4, O.gt_act hg l h3, O.gt_act hg m h3, ih]
/-- WHAT ISN'T DIRTY COMES TO THE SAME, WITH THE SAME KEY -/
theorem clean {g : Gr} {l m : List O.So} (hl : O.Ok g l) (hm : O.Ok g m) {xs : List (List UInt8)} (h : Sm xs l m) {p : Nat} {t : Ac} (ht : g.2[p]? = some t) (hd : dtA g xs t = false) :
    O.gt (O.baked g l) t.1 = O.gt (O.baked g m) t.1 ∧ O.keyA (O.baked g l) t = O.keyA (O.baked g m) t := by
  have hg := hl.good
  have hp : p < g.2.length := (List.getElem?_eq_some_iff.1 ht).1
  obtain ⟨j, hj⟩ := List.mem_iff_getElem?.1 (hg.all hp)
  have e := clean_at hl hm h (j + 1) j p t (by omega) hj ht hd
  have e2 : O.gt (O.baked g l) t.1 = O.gt (O.baked g m) t.1 := by rw [O.gt_act hg l ht, O.gt_act hg m ht, e]
  refine ⟨e2, ?_⟩
  unfold O.keyA
  rw [e2, e]
/-- whether a source gets a new blob -/
def isN (a : O.So) (b : List UInt8) : Bool := decide (b ≠ a.2 ∧ b.length ≤ 512)
/-- new blobs for the first so many sources; the names of those that got one -/
def nwL (l : List O.So) (now : List (List UInt8)) : Nat → List O.So
  | 0 => l
  | k + 1 => match l[k]?, now[k]? with
    | some a, some b => if isN a b = true then (nwL l now k).set k (a.1, b) else nwL l now k
    | _, _ => nwL l now k
def nmN (l : List O.So) (now : List (List UInt8)) : Nat → List (List UInt8)
  | 0 => []
  | k + 1 => match l[k]?, now[k]? with
    | some a, some b => if isN a b = true then nmN l now k ++ [a.1] else nmN l now k
    | _, _ => nmN l now k
theorem nwL_succ {l : List O.So} {now : List (List UInt8)} {k : Nat} {a : O.So} {b : List UInt8} (ha : l[k]? = some a) (hb : now[k]? = some b) : nwL l now (k + 1) = if isN a b = true then (nwL l now k).set k (a.1, b) else nwL l now k := by
  rw [nwL, ha, hb]
theorem nmN_succ {l : List O.So} {now : List (List UInt8)} {k : Nat} {a : O.So} {b : List UInt8} (ha : l[k]? = some a) (hb : now[k]? = some b) : nmN l now (k + 1) = if isN a b = true then nmN l now k ++ [a.1] else nmN l now k := by
  rw [nmN, ha, hb]
theorem nwL_at (l : List O.So) (now : List (List UInt8)) : ∀ (k j : Nat), k ≤ j → (nwL l now k)[j]? = l[j]?
  | 0, j, h => rfl
  | k + 1, j, h => by
    have ih := nwL_at l now k j (by omega)
    rw [nwL]
    split
    · split
      · rw [List.getElem?_set, if_neg (by omega)]; exact ih
      · exact ih
    · exact ih
theorem nwL_len (l : List O.So) (now : List (List UInt8)) : ∀ k, (nwL l now k).length = l.length
  | 0 => rfl
  | k + 1 => by
    have ih := nwL_len l now k
    rw [nwL]
    split
    · split
      · rw [List.length_set]; exact ih
      · exact ih
    · exact ih
theorem nwL_nms (l : List O.So) (now : List (List UInt8)) : ∀ k, O.nms (nwL l now k) = O.nms l
  | 0 => rfl
  | k + 1 => by
    have ih := nwL_nms l now k
    rw [nwL]
    split
    · rename_i a b ha hb
      split
      · unfold O.nms at *
        apply List.ext_getElem?
        intro j
        rw [List.getElem?_map, List.getElem?_set]
        by_cases e : k = j
        · subst e
          have hk : k < (nwL l now k).length := by rw [nwL_len]; exact (List.getElem?_eq_some_iff.1 ha).1
          rw [if_pos rfl, if_pos hk, List.getElem?_map, ha]; rfl
        · rw [if_neg e, ← List.getElem?_map, ih]
      · exact ih
    · exact ih
theorem nmN_mono (l : List O.So) (now : List (List UInt8)) (k : Nat) {x : List UInt8} (h : x ∈ nmN l now k) : x ∈ nmN l now (k + 1) := by
  rw [nmN]
  split
  · split
    · exact List.mem_append.2 (Or.inl h)
    · exact h
  · exact h
theorem nwL_bl (l : List O.So) (now : List (List UInt8)) : ∀ (k j : Nat) a b, l[j]? = some a → (nwL l now k)[j]? = some b → a.1 ∉ nmN l now k → a.2 = b.2
  | 0, j, a, b, h1, h2, _ => by
    rw [nwL, h1] at h2; cases h2; rfl
  | k + 1, j, a, b, h1, h2, h3 => by
    have h3' : a.1 ∉ nmN l now k := fun e => h3 (nmN_mono l now k e)
    rw [nwL] at h2
    split at h2
    · rename_i a' b' ha hb
      split at h2
      · rename_i hq
        rw [List.getElem?_set] at h2
        by_cases e : k = j
        · subst e
          rw [h1] at ha; cases ha
          exfalso
          apply h3
          rw [nmN_succ h1 hb, if_pos hq]
          exact List.mem_append.2 (Or.inr (by simp))
        · rw [if_neg e] at h2
          exact nwL_bl l now k j a b h1 h2 h3'
      · exact nwL_bl l now k j a b h1 h2 h3'
    · exact nwL_bl l now k j a b h1 h2 h3'
theorem nwL_512 (l : List O.So) (now : List (List UInt8)) (h : ∀ s ∈ l, s.2.length ≤ 512) : ∀ k, ∀ s ∈ nwL l now k, s.2.length ≤ 512
  | 0 => h
  | k + 1 => by
    have ih := nwL_512 l now h k
    intro s hs
    rw [nwL] at hs
    split at hs
    · rename_i a b ha hb
      split at hs
      · rename_i hq
        rcases List.mem_or_eq_of_mem_set hs with h1 | h1
        · exact ih s h1
        · rw [h1]
          exact (of_decide_eq_true hq).2
      · exact ih s hs
    · exact ih s hs
theorem nwL_ok {g : Gr} {l : List O.So} (h : O.Ok g l) (now : List (List UInt8)) (k : Nat) : O.Ok g (nwL l now k) :=
  ⟨h.good, by rw [nwL_nms]; exact h.nd, by rw [nwL_len]; exact h.len, fun s hs => by rw [nwL_nms]; exact h.all s hs, nwL_512 l now h.blob k⟩
theorem nwL_sm (l : List O.So) (now : List (List UInt8)) (k : Nat) : Sm (nmN l now k) l (nwL l now k) := ⟨nwL_nms l now k, fun j a b h1 h2 h3 => nwL_bl l now k j a b h1 h2 h3⟩
theorem nmN_len (l : List O.So) (now : List (List UInt8)) : ∀ k, (nmN l now k).length ≤ k
  | 0 => Nat.le_refl _
  | k + 1 => by
    have ih := nmN_len l now k
    rw [nmN]
    split
    · split
      · simp; omega
      · omega
    · omega
theorem nmN_in (l : List O.So) (now : List (List UInt8)) : ∀ k, ∀ x ∈ nmN l now k, ∃ a ∈ l, a.1 = x
  | 0, x, h => by cases h
  | k + 1, x, h => by
    rw [nmN] at h
    split at h
    · rename_i a b ha hb
      split at h
      · rcases List.mem_append.1 h with h | h
        · exact nmN_in l now k x h
        · simp at h; subst h; exact ⟨a, List.mem_of_getElem? ha, rfl⟩
      · exact nmN_in l now k x h
    · exact nmN_in l now k x h
end Go.Proofs.YtoehdohibdpgnaaGreatDoor
