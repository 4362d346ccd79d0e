/- What a sky's calls leave as it was; both skies beside each other. -/
import Derived.Test.YtokicaacllaijaaHzK
import Derived.Test.YtokicaacllaijaaOpH
namespace Go.Proofs.Ytokicaacllaijaa
open Go.RowKit
set_option linter.unusedVariables false
set_option linter.unusedSimpArgs false
attribute [local go_sem ↓] zeroH zeroD

set_option maxRecDepth 8000 in
set_option maxHeartbeats 2000000 in
theorem Put_noO {w W : World} {p : Nat} {f : SkF} (x : SKY w p f W) (n t : Int) (h : HZ.H) (hno : isN n = false ∨ isT t = false) : Calls Try.prog 20 #[.pointer (some ⟨p, 0, none⟩), .int .i64 n, .agg (hC h).toArray, .int .i64 t] W fun e w' => e = .returned (.tuple #[]) ∧ SKY w p f w' ∧ Of1 p W w' := by
  have HB : Hid (SKY w p f (W.alloc (.cells (hC h).toArray tH)) ∧ Of1 p W (W.alloc (.cells (hC h).toArray tH))) := ⟨x.grow ((Bl.refl W).alloc _), Of1.of_bl ((Bl.refl W).alloc _)⟩
  have C1 : Hid (∀ U, Calls Try.prog 32 #[.int .i64 n] U fun e w' => e = .returned (.bool (isN n)) ∧ w' = U) := isNode_x n
  have C2 : Hid (∀ U, Calls Try.prog 33 #[.int .i64 t] U fun e w' => e = .returned (.bool (isT t)) ∧ w' = U) := isTime_x t
  clear x
  generalize hC h = LH at *
  generalize isN n = a at *
  generalize isT t = b at *
  cases a
  · clear hno
    go_enter Try.func20, Try.ntmps20
    go_wp2_with (first
      | go_big_skip
      | (go_at_call 32; refine (C1.out _).mono ?_; rintro e w' ⟨rfl, hw⟩; rw [hw]; clear hw))
    first | refine bodyPost_end (results_none rfl _ _ _) rfl ?_ | refine bodyPost_ret (results_none rfl _ _ _) rfl ?_
    exact ⟨rfl, HB.out⟩
  · obtain rfl : b = false := by simpa using hno
    clear hno
    go_enter Try.func20, Try.ntmps20
    go_wp2_with (first
      | go_big_skip
      | (go_at_call 32; refine (C1.out _).mono ?_; rintro e w' ⟨rfl, hw⟩; rw [hw]; clear hw)
      | (go_at_call 33; refine (C2.out _).mono ?_; rintro e w' ⟨rfl, hw⟩; rw [hw]; clear hw))
    first | refine bodyPost_end (results_none rfl _ _ _) rfl ?_ | refine bodyPost_ret (results_none rfl _ _ _) rfl ?_
    exact ⟨rfl, HB.out⟩
set_option maxRecDepth 8000 in
set_option maxHeartbeats 2000000 in
theorem Drop_noO {w W : World} {p : Nat} {f : SkF} (x : SKY w p f W) (n : Int) (hno : isN n = false) : Calls Try.prog 22 #[.pointer (some ⟨p, 0, none⟩), .int .i64 n] W fun e w' => e = .returned (.tuple #[]) ∧ SKY w p f w' ∧ Of1 p W w' := by
  have HB : Hid (SKY w p f W ∧ Of1 p W W) := ⟨x, Of1.refl p W⟩
  have C1 : Hid (∀ U, Calls Try.prog 32 #[.int .i64 n] U fun e w' => e = .returned (.bool false) ∧ w' = U) := by rw [← hno]; exact isNode_x n
  clear x hno
  go_enter Try.func22, Try.ntmps22
  go_wp2_with (first
    | go_big_skip
    | (go_at_call 32; refine (C1.out _).mono ?_; rintro e w' ⟨rfl, hw⟩; rw [hw]; clear hw))
  first | refine bodyPost_end (results_none rfl _ _ _) rfl ?_ | refine bodyPost_ret (results_none rfl _ _ _) rfl ?_
  exact ⟨rfl, HB.out⟩
set_option maxRecDepth 8000 in
set_option maxHeartbeats 2000000 in
theorem Drop_yesO {w W : World} {p : Nat} {f : SkF} (x : SKY w p f W) (n : Nat) (h1 : 1 ≤ n) (h6 : n ≤ 6) : Calls Try.prog 22 #[.pointer (some ⟨p, 0, none⟩), .int .i64 (n : Int)] W fun e w' => e = .returned (.tuple #[]) ∧ SKY w p (f.drop n) w' ∧ Of1 p W w' := by
  have C1 : Hid (∀ U, Calls Try.prog 32 #[.int .i64 (n : Int)] U fun e w' => e = .returned (.bool true) ∧ w' = U) := by
    have e : isN (n : Int) = true := by unfold isN; rw [decide_eq_true (by omega), decide_eq_true (by omega)]; rfl
    rw [← e]; exact isNode_x n
  obtain ⟨L, hL, hp, hx⟩ := x.2.2
  have HX : Hid (∀ U, U.heap[p]? = some (.cells (L.set n (.pointer none)).toArray tSky (0, 0)) → Of1 p W U → SKY w p (f.drop n) U ∧ Of1 p W U) := fun U hU hO => ⟨x.set hp (by omega) (o := none) rfl hU hO, hO⟩
  have HP : Hid (W.heap[p]? = some (.cells L.toArray tSky (0, 0))) := hp
  clear hx hp x
  have hn7 : (n : Int) < 7 := by omega
  go_enter Try.func22, Try.ntmps22
  go_wp2_with (first
    | go_big_skip
    | (go_at_call 32; refine (C1.out _).mono ?_; rintro e w' ⟨rfl, hw⟩; rw [hw]; clear hw)
    | (refine wl_setU rfl 65 _ _ rfl p n (.pointer none) rfl rfl rfl infoPs L (L.set n (.pointer none)) tSky HP.out (by omega) rfl ?_; intro U hU hO))
  first | refine bodyPost_end (results_none rfl _ _ _) rfl ?_ | refine bodyPost_ret (results_none rfl _ _ _) rfl ?_
  exact ⟨rfl, HX.out U hU hO⟩
set_option maxRecDepth 8000 in
set_option maxHeartbeats 2000000 in
theorem Put_yesO {w W : World} {p : Nat} {f : SkF} (x : SKY w p f W) (n : Nat) (h1 : 1 ≤ n) (h6 : n ≤ 6) (t : Int) (ht : isT t = true) (h : HZ.H) : Calls Try.prog 20 #[.pointer (some ⟨p, 0, none⟩), .int .i64 (n : Int), .agg (hC h).toArray, .int .i64 t] W fun e w' => e = .returned (.tuple #[]) ∧ SKY w p (f.put n h t) w' ∧ Of1 p W w' := by
  have C1 : Hid (∀ U, Calls Try.prog 32 #[.int .i64 (n : Int)] U fun e w' => e = .returned (.bool true) ∧ w' = U) := by
    have e : isN (n : Int) = true := by unfold isN; rw [decide_eq_true (by omega), decide_eq_true (by omega)]; rfl
    rw [← e]; exact isNode_x n
  have C2 : Hid (∀ U, Calls Try.prog 33 #[.int .i64 t] U fun e w' => e = .returned (.bool true) ∧ w' = U) := by rw [← ht]; exact isTime_x t
  obtain ⟨L, hL, hp, hx⟩ := x.2.2
  have hpl : p < W.heap.size := lt_heap hp
  have HX : Hid (∀ V U g, Bl W V → g ≠ p → V.heap[g]? = some (.cells (siC h t).toArray tSi (0, 0)) → U.heap[p]? = some (.cells (L.set n (.pointer (some ⟨g, 0, none⟩))).toArray tSky (0, 0)) → Of1 p V U → SKY w p (f.put n h t) U ∧ Of1 p W U) := fun V U g hb hg hg2 hU hO => ⟨(x.grow hb).set (hb.heap hp) (by omega) (o := some (h, t)) ⟨g, hg, rfl, hg2⟩ hU hO, (Of1.of_bl hb).trans hO⟩
  have HP : Hid (∀ U, Bl W U → U.heap[p]? = some (.cells L.toArray tSky (0, 0))) := fun U hb => hb.heap hp
  have KP : Hid (∀ U, Bl (W.alloc (.cells (hC h).toArray tH)) U → U.rangeAt W.heap.size 0 (hC h)) := fun U b => range_of (b.heap (heap_alloc_new W _))
  have HV : Hid (Bl (W.alloc (.cells (hC h).toArray tH)) (W.alloc (.cells (hC h).toArray tH)).drew) := (Bl.refl _).drew
  have HWV : Hid (∀ U, Bl (W.alloc (.cells (hC h).toArray tH)) U → Bl W U) := fun U b => ((Bl.refl W).alloc _).step b
  have HIH : Hid ((Try.prog.info? tH).map (·.size) = some (hC h).length) := by show _ = _; rw [hC_len]; exact infoH
  have HBU : Hid (Try.prog.built tSi [(0, .agg (hC h).toArray), (1, .int .i64 t)] = some (siC h t).toArray) := builtSi h t
  clear hx hp x ht
  have hn7 : (n : Int) < 7 := by omega
  have hnw : IntKind.i64.wrap (n : Int) = (n : Int) := by rw [IntKind.wrap_i64]; omega
  have hsz1 : (W.alloc (.cells (hC h).toArray tH)).drew.heap.size = W.heap.size + 1 := by simp
  generalize siC h t = LS at *
  generalize hC h = LH at *
  go_enter Try.func20, Try.ntmps20
  go_wp2_with (first
    | go_big_skip
    | (go_at_call 32; refine (C1.out _).mono ?_; rintro e w' ⟨rfl, hw⟩; rw [hw]; clear hw)
    | (go_at_call 33; refine (C2.out _).mono ?_; rintro e w' ⟨rfl, hw⟩; rw [hw]; clear hw))
  refine wp_region_noPanic ?_
  refine wp_region_held_drew (S := fun U => U.rangeAt W.heap.size 0 LH) (by kernel_rfl) (KP.out _ (HV.out)) (fun hHeld => ?_)
  refine wpAnyH_take (i := 0) rfl (by kernel_rfl) (by kernel_rfl) (by kernel_rfl) (fun _ _ _ h => h) (yi_move (by kernel_rfl) rfl rfl) (by assumption) ?_
  simp only [Act.put, List.getElem_toArray, List.getElem_cons_succ, List.getElem_cons_zero, List.setIfInBounds_toArray, List.set_cons_zero, List.set_cons_succ, Act.eval, Array.getD_eq_getD_getElem?, List.getElem?_toArray, List.getElem?_cons_succ, List.getElem?_cons_zero, Option.getD_some]
  refine wpAnyH_take (i := 1) rfl (by kernel_rfl) (by kernel_rfl) (by kernel_rfl) (fun _ _ _ h => h) (yi_move (by kernel_rfl) rfl rfl) (by assumption) ?_
  simp only [Act.put, List.getElem_toArray, List.getElem_cons_succ, List.getElem_cons_zero, List.setIfInBounds_toArray, List.set_cons_zero, List.set_cons_succ, Act.eval, Array.getD_eq_getD_getElem?, List.getElem?_toArray, List.getElem?_cons_succ, List.getElem?_cons_zero, Option.getD_some]
  refine wpAnyH_take (i := 2) (v := .agg (List.toArray LH)) rfl (by kernel_rfl) (by kernel_rfl) (by kernel_rfl) (fun _ _ _ h => h) (yieldsIf_load_mid (by kernel_rfl) _ (.tmp 6) (by kernel_rfl) W.heap.size 0 (by kernel_rfl) LH _ (fun W hW => hW) undH rfl HIH.out) (by assumption) ?_
  simp only [Act.put, List.getElem_toArray, List.getElem_cons_succ, List.getElem_cons_zero, List.setIfInBounds_toArray, List.set_cons_zero, List.set_cons_succ, Act.eval, Array.getD_eq_getD_getElem?, List.getElem?_toArray, List.getElem?_cons_succ, List.getElem?_cons_zero, Option.getD_some]
  refine wpAnyH_take (i := 3) rfl (by kernel_rfl) (by kernel_rfl) (by kernel_rfl) (fun _ _ _ h => h) (yi_move (by kernel_rfl) rfl rfl) (by assumption) ?_
  simp only [Act.put, List.getElem_toArray, List.getElem_cons_succ, List.getElem_cons_zero, List.setIfInBounds_toArray, List.set_cons_zero, List.set_cons_succ, Act.eval, Array.getD_eq_getD_getElem?, List.getElem?_toArray, List.getElem?_cons_succ, List.getElem?_cons_zero, Option.getD_some]
  refine wpAnyH_take (i := 4) (v := (.agg LS.toArray)) rfl (by kernel_rfl) (by kernel_rfl) (by kernel_rfl) (fun _ _ _ h => h) (yi_buildP (by kernel_rfl) rfl #[(0, .agg LH.toArray), (1, .int .i64 t)] (by rfl) HBU.out) (by assumption) ?_
  simp only [Act.put, List.getElem_toArray, List.getElem_cons_succ, List.getElem_cons_zero, List.setIfInBounds_toArray, List.set_cons_zero, List.set_cons_succ, Act.eval, Array.getD_eq_getD_getElem?, List.getElem?_toArray, List.getElem?_cons_succ, List.getElem?_cons_zero, Option.getD_some]
  refine wpAnyH_take (i := 6) (v := ?_) rfl (by kernel_rfl) (by kernel_rfl) (by kernel_rfl) (fun _ _ _ h => h) (Or.inl ⟨by kernel_rfl, ?_⟩) (by assumption) ?_
  rotate_left
  · (intro w hSw; (try dsimp only at hSw); go_simp; (try with_reducible rfl))
  simp only [Act.put, List.getElem_toArray, List.getElem_cons_succ, List.getElem_cons_zero, List.setIfInBounds_toArray, List.set_cons_zero, List.set_cons_succ, Act.eval, Array.getD_eq_getD_getElem?, List.getElem?_toArray, List.getElem?_cons_succ, List.getElem?_cons_zero, Option.getD_some]
  refine wpAnyH_take (i := 7) (v := ?_) rfl (by kernel_rfl) (by kernel_rfl) (by kernel_rfl) (fun _ _ _ h => h) (Or.inl ⟨by kernel_rfl, ?_⟩) (by assumption) ?_
  rotate_left
  · (intro w hSw; (try dsimp only at hSw); go_simp; (try with_reducible rfl))
  simp only [Act.put, List.getElem_toArray, List.getElem_cons_succ, List.getElem_cons_zero, List.setIfInBounds_toArray, List.set_cons_zero, List.set_cons_succ, Act.eval, Array.getD_eq_getD_getElem?, List.getElem?_toArray, List.getElem?_cons_succ, List.getElem?_cons_zero, Option.getD_some]
  refine wpAnyH_ready (rs := [5]) (by kernel_rfl) (by simp) ?_
  refine AllReadyH.cons (o := _) rfl (fun K hK => ?_) AllReadyH.nil
  go_simp
  have HBX := (HV.out).alloc (.cells LS.toArray tSi)
  refine hK.out _ _ (KP.out _ (HBX)) (fun hHeld => ?_)
  clear hK K
  (try simp only [Act.put, List.getElem_toArray, List.getElem_cons_succ, List.getElem_cons_zero, List.setIfInBounds_toArray, List.set_cons_zero, List.set_cons_succ, Act.eval, Array.getD_eq_getD_getElem?, List.getElem?_toArray, List.getElem?_cons_succ, List.getElem?_cons_zero, Option.getD_some])
  refine wpAnyH_take (i := 8) (v := ?_) rfl (by kernel_rfl) (by kernel_rfl) (by kernel_rfl) (fun _ _ _ h => h) (Or.inl ⟨by kernel_rfl, ?_⟩) (by assumption) ?_
  rotate_left
  · (intro w hSw; (try dsimp only at hSw); go_simp; (try with_reducible rfl))
  simp only [Act.put, List.getElem_toArray, List.getElem_cons_succ, List.getElem_cons_zero, List.setIfInBounds_toArray, List.set_cons_zero, List.set_cons_succ, Act.eval, Array.getD_eq_getD_getElem?, List.getElem?_toArray, List.getElem?_cons_succ, List.getElem?_cons_zero, Option.getD_some]
  refine wpAnyH_ready (rs := [9]) (by kernel_rfl) (by simp) ?_
  refine AllReadyH.cons (o := _) rfl (fun K hK => ?_) AllReadyH.nil
  refine stepo_setU rfl 65 _ _ rfl p n (.pointer (some ⟨W.heap.size + 1, 0, none⟩)) rfl (by first | rfl | (rw [← hsz1]; rfl)) rfl infoPs L (L.set n (.pointer (some ⟨W.heap.size + 1, 0, none⟩))) tSky (HP.out _ (HWV.out _ HBX)) (by omega) rfl (fun U9 hu9 ho9 => ?_)
  have HF9 : SKY w p (f.put n h t) U9 ∧ Of1 p W U9 := HX.out _ U9 (W.heap.size + 1) (HWV.out _ HBX) (by omega) (by first | exact heap_alloc_new _ _ | (rw [← hsz1]; exact heap_alloc_new _ _)) hu9 ho9
  have hz9 : W.heap.size < ((W.alloc (.cells LH.toArray tH)).drew.alloc (.cells LS.toArray tSi)).heap.size := by simp; omega
  refine hK.out _ _ (fun j v hv => by rw [World.cell?_of_block (ho9.block _ hz9 (by show W.heap.size ≠ p; omega))]; exact KP.out _ HBX j v hv) (fun hHeld => ?_)
  clear hK K
  (try simp only [Act.put, List.getElem_toArray, List.getElem_cons_succ, List.getElem_cons_zero, List.setIfInBounds_toArray, List.set_cons_zero, List.set_cons_succ, Act.eval, Array.getD_eq_getD_getElem?, List.getElem?_toArray, List.getElem?_cons_succ, List.getElem?_cons_zero, Option.getD_some])
  refine wpAnyH_done (by kernel_rfl) ?_ _
  refine NoPanic.normal ?_
  go_wp2_with fail
  first | refine bodyPost_end (results_none rfl _ _ _) rfl ?_ | refine bodyPost_ret (results_none rfl _ _ _) rfl ?_
  exact ⟨rfl, HF9⟩
theorem cells_inj {w : World} {b : Nat} {A B : Array Value} {s t : TypeId} {u v : Nat × Nat} (h : w.heap[b]? = some (.cells A s u)) (g : w.heap[b]? = some (.cells B t v)) : s = t := by
  rw [h] at g
  simp only [Option.some.injEq, Obj.cells.injEq] at g
  exact g.2.1
theorem tSky_ne : tSky ≠ tRs := by decide
theorem tSi_ne : tSi ≠ tRs := by decide
/-- the program's sky lies as it was where the reference's turned -/
theorem SKY.other {w W U : World} {p q : Nat} {f : SkF} (h : SKY w p f W) {C : Array Value} (hq : W.heap[q]? = some (.cells C tRs (0, 0))) (hw : w.heap.size ≤ q) (hO : Of1 q W U) : SKY w p f U := by
  obtain ⟨h1, h2, L, h3, h4, h5⟩ := h
  have hne : p ≠ q := fun e => by subst e; exact tSky_ne (cells_inj h4 hq)
  refine ⟨hO.bl h1 hw, h2, L, h3, by rw [hO.block p (lt_heap h4) hne]; exact h4, fun j hj => ?_⟩
  obtain ⟨v, g1, g2⟩ := h5 j hj
  refine ⟨v, g1, ?_⟩
  cases e : f j with
  | none => rw [e] at g2; exact g2
  | some x =>
    obtain ⟨y, t⟩ := x
    rw [e] at g2
    obtain ⟨b, a1, a2, a3⟩ := g2
    have hb : b ≠ q := fun e => by subst e; exact tSi_ne (cells_inj a3 hq)
    exact ⟨b, a1, a2, by rw [hO.block b (lt_heap a3) hb]; exact a3⟩
theorem RSK.other {w W U : World} {p q : Nat} {f : SkF} (h : RSK w q f W) (hne : q ≠ p) (hw : w.heap.size ≤ p) (hO : Of1 p W U) : RSK w q f U := by
  obtain ⟨h1, h2, CL, R, h3, h4⟩ := h
  exact ⟨hO.bl h1 hw, h2, CL, R, by rw [hO.block q (lt_heap h3) hne]; exact h3, h4⟩
/-- both skies -/
structure SKS (w : World) (p q : Nat) (f g : SkF) (W : World) : Prop where
  sky : SKY w p f W
  rsk : RSK w q g W
theorem SKS.ne {w W : World} {p q : Nat} {f g : SkF} (h : SKS w p q f g W) : q ≠ p := fun e => by
  obtain ⟨_, _, L, _, h4, _⟩ := h.sky
  obtain ⟨_, _, CL, R, h3, _⟩ := h.rsk
  subst e
  exact tSky_ne (cells_inj h4 h3)
theorem SKS.grow {w W W' : World} {p q : Nat} {f g : SkF} (h : SKS w p q f g W) (b : Bl W W') : SKS w p q f g W' := ⟨h.sky.grow b, h.rsk.grow b⟩
def pa (f : SkF) (n : Int) (h : HZ.H) (t : Int) : SkF := if (isN n && isT t) = true then f.put n.toNat h t else f
def da (f : SkF) (n : Int) : SkF := if isN n = true then f.drop n.toNat else f
structure OKF (f : SkF) : Prop where
  z : f 0 = none
  t : ∀ j h t, f j = some (h, t) → isT t = true
theorem okf0 : OKF sk0 := ⟨rfl, fun j h t e => by cases e⟩
theorem isN_ge {n : Int} (h : isN n = true) : 1 ≤ n ∧ n ≤ 6 := by unfold isN at h; simpa using h
theorem OKF.pa {f : SkF} (h : OKF f) (n : Int) (x : HZ.H) (t : Int) : OKF (pa f n x t) := by
  unfold Proofs.Ytokicaacllaijaa.pa
  split
  · rename_i e
    rw [Bool.and_eq_true] at e
    obtain ⟨e1, e2⟩ := isN_ge e.1
    refine ⟨by unfold SkF.put; rw [if_neg (by omega)]; exact h.z, fun j y s hy => ?_⟩
    unfold SkF.put at hy
    split at hy
    · simp only [Option.some.injEq, Prod.mk.injEq] at hy; rw [← hy.2]; exact e.2
    · exact h.t j y s hy
  · exact h
theorem OKF.da {f : SkF} (h : OKF f) (n : Int) : OKF (da f n) := by
  unfold Proofs.Ytokicaacllaijaa.da
  split
  · refine ⟨by unfold SkF.drop; split <;> first | rfl | exact h.z, fun j y s hy => ?_⟩
    unfold SkF.drop at hy
    split at hy
    · cases hy
    · exact h.t j y s hy
  · exact h
theorem SKS.put {w W : World} {p q : Nat} {f g : SkF} (x : SKS w p q f g W) (n t : Int) (h : HZ.H) : Calls Try.prog 20 #[.pointer (some ⟨p, 0, none⟩), .int .i64 n, .agg (hC h).toArray, .int .i64 t] W fun e w' => e = .returned (.tuple #[]) ∧ SKS w p q (pa f n h t) g w' ∧ Of1 p W w' := by
  have hge := x.sky.2.1
  unfold pa
  by_cases e : (isN n && isT t) = true
  · rw [if_pos e]
    rw [Bool.and_eq_true] at e
    obtain ⟨e1, e2⟩ := isN_ge e.1
    have hn : ((n.toNat : Nat) : Int) = n := by omega
    have := Put_yesO x.sky n.toNat (by omega) (by omega) t e.2 h
    rw [hn] at this
    exact this.mono fun e w' ⟨g1, g2, g3⟩ => ⟨g1, ⟨g2, x.rsk.other x.ne hge g3⟩, g3⟩
  · rw [if_neg e]
    have hno : isN n = false ∨ isT t = false := by
      cases a : isN n <;> cases b : isT t <;> simp [a, b] at e ⊢
    exact (Put_noO x.sky n t h hno).mono fun e w' ⟨g1, g2, g3⟩ => ⟨g1, ⟨g2, x.rsk.other x.ne hge g3⟩, g3⟩
theorem SKS.drop {w W : World} {p q : Nat} {f g : SkF} (x : SKS w p q f g W) (n : Int) : Calls Try.prog 22 #[.pointer (some ⟨p, 0, none⟩), .int .i64 n] W fun e w' => e = .returned (.tuple #[]) ∧ SKS w p q (da f n) g w' ∧ Of1 p W w' := by
  have hge := x.sky.2.1
  unfold da
  by_cases e : isN n = true
  · rw [if_pos e]
    obtain ⟨e1, e2⟩ := isN_ge e
    have hn : ((n.toNat : Nat) : Int) = n := by omega
    have := Drop_yesO x.sky n.toNat (by omega) (by omega)
    rw [hn] at this
    exact this.mono fun e w' ⟨g1, g2, g3⟩ => ⟨g1, ⟨g2, x.rsk.other x.ne hge g3⟩, g3⟩
  · rw [if_neg e]
    exact (Drop_noO x.sky n (by simpa using e)).mono fun e w' ⟨g1, g2, g3⟩ => ⟨g1, ⟨g2, x.rsk.other x.ne hge g3⟩, g3⟩
theorem SKS.rest {w W U : World} {p q : Nat} {f g g' : SkF} (x : SKS w p q f g W) (h : RSK w q g' U) (hO : Of1 q W U) : SKS w p q f g' U := by
  obtain ⟨_, hge, CL, R, h3, _⟩ := x.rsk
  exact ⟨x.sky.other h3 hge hO, h⟩
theorem SKS.rput {w W : World} {p q : Nat} {f g : SkF} (x : SKS w p q f g W) (n t : Int) (h : HZ.H) : Calls Try.prog 21 #[.pointer (some ⟨q, 0, none⟩), .int .i64 n, .agg (hC h).toArray, .int .i64 t] W fun e w' => e = .returned (.tuple #[]) ∧ SKS w p q f (pa g n h t) w' ∧ Of1 q W w' := by
  unfold pa
  by_cases e : (isN n && isT t) = true
  · rw [if_pos e]
    rw [Bool.and_eq_true] at e
    obtain ⟨e1, e2⟩ := isN_ge e.1
    have hn : ((n.toNat : Nat) : Int) = n := by omega
    have := rPut_yes x.rsk n.toNat (by omega) (by omega) t e.2 h
    rw [hn] at this
    exact this.mono fun e w' ⟨g1, g2, g3⟩ => ⟨g1, x.rest g2 g3, g3⟩
  · rw [if_neg e]
    have hno : isN n = false ∨ isT t = false := by
      cases a : isN n <;> cases b : isT t <;> simp [a, b] at e ⊢
    exact (rPut_no x.rsk n t h hno).mono fun e w' ⟨g1, g2, g3⟩ => ⟨g1, x.rest g2 g3, g3⟩
theorem SKS.rdrop {w W : World} {p q : Nat} {f g : SkF} (x : SKS w p q f g W) (n : Int) : Calls Try.prog 23 #[.pointer (some ⟨q, 0, none⟩), .int .i64 n] W fun e w' => e = .returned (.tuple #[]) ∧ SKS w p q f (da g n) w' ∧ Of1 q W w' := by
  unfold da
  by_cases e : isN n = true
  · rw [if_pos e]
    obtain ⟨e1, e2⟩ := isN_ge e
    have hn : ((n.toNat : Nat) : Int) = n := by omega
    have := rDrop_yes x.rsk n.toNat (by omega) (by omega)
    rw [hn] at this
    exact this.mono fun e w' ⟨g1, g2, g3⟩ => ⟨g1, x.rest g2 g3, g3⟩
  · rw [if_neg e]
    exact (rDrop_no x.rsk n (by simpa using e)).mono fun e w' ⟨g1, g2, g3⟩ => ⟨g1, x.rest g2 g3, g3⟩
theorem Of1.hp {g : Nat} {w0 w : World} (h : Of1 g w0 w) {b : Nat} {o : Obj} (hne : b ≠ g) (hr : w0.heap[b]? = some o) : w.heap[b]? = some o := by rw [h.block b (lt_heap hr) hne]; exact hr
/-- an act's box -/
abbrev tA : TypeId := 47
def zA : Array Value := (azC ⟨0, 0, HZ.zero, ⟨List.replicate 32 0, by simp⟩, 0⟩).toArray
theorem zeroA (W : World) : (zeroValue tA).run Try.prog W = .ok (.agg zA) W := by kernel_rfl
theorem zA_size : zA.size = 99 := by unfold zA; simp [azC_len]
theorem undA : ∃ fs, Try.prog.underlying tA = some (.struct fs) := ⟨_, Try.underlying47⟩
theorem infoA : (Try.prog.info? tA).map (·.size) = some 99 := by kernel_rfl
theorem az_h {W : World} {g : Nat} {x : Az} (h : W.heap[g]? = some (.cells (azC x).toArray tA (0, 0))) : W.rangeAt g 2 (hC x.h) := fun i v hv => by
  have hi := (List.getElem?_eq_some_iff.1 hv).1
  refine cell_of h ?_
  unfold azC
  rw [List.append_assoc, List.append_assoc, List.getElem?_append_right (by simp), List.getElem?_append_left (by simpa using hi)]
  simpa using hv
theorem az_k {W : World} {g : Nat} {x : Az} (h : W.heap[g]? = some (.cells (azC x).toArray tA (0, 0))) : W.rangeAt g 66 (dC x.k) := fun i v hv => by
  have hi := (List.getElem?_eq_some_iff.1 hv).1
  refine cell_of h ?_
  unfold azC
  rw [List.append_assoc, List.getElem?_append_right (by simp [hC_len] <;> omega), List.getElem?_append_left (by simp [hC_len] <;> omega)]
  simp only [List.length_append, hC_len, List.length_cons, List.length_nil]
  rw [show 66 + i - (0 + 1 + 1 + 64) = i by omega]; exact hv
theorem az_0 {W : World} {g : Nat} {x : Az} (h : W.heap[g]? = some (.cells (azC x).toArray tA (0, 0))) : W.cell? ⟨g, 0, none⟩ = some (.int .i64 x.kind) := cell_of h (by unfold azC; simp)
theorem az_1 {W : World} {g : Nat} {x : Az} (h : W.heap[g]? = some (.cells (azC x).toArray tA (0, 0))) : W.cell? ⟨g, 1, none⟩ = some (.int .i64 x.node) := cell_of h (by unfold azC; simp)
theorem az_98 {W : World} {g : Nat} {x : Az} (h : W.heap[g]? = some (.cells (azC x).toArray tA (0, 0))) : W.cell? ⟨g, 98, none⟩ = some (.int .i64 x.now) := cell_of h (by
  unfold azC
  rw [List.getElem?_append_right (by simp [hC_len, dC_len])]
  simp [hC_len, dC_len])
end Go.Proofs.Ytokicaacllaijaa
