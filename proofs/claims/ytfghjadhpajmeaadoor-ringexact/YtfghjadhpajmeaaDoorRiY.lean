/- The reference's Walk. -/
import Derived.Test.YtfghjadhpajmeaaDoorRiY0
namespace Go.Proofs.YtfghjadhpajmeaaDoor
open Go.RowKit Go.Maps Go.Sort Go.Shelf
set_option linter.unusedVariables false
set_option linter.unusedSimpArgs false
attribute [local go_sem ↓] zero27

theorem zero55 (W : World) : (zeroValue 55).run Tryd.prog W = .ok (.agg (bL fun _ => false).toArray) W := by kernel_rfl
theorem zero56 (W : World) : (zeroValue 56).run Tryd.prog W = .ok (.agg (uL fun _ => 0).toArray) W := by kernel_rfl
attribute [local go_sem ↓] zero55 zero56
theorem info55 : (Tryd.prog.info? 55).map (·.size) = some 7 := by kernel_rfl
theorem info56 : (Tryd.prog.info? 56).map (·.size) = some 7 := by kernel_rfl
theorem infob1 : (Tryd.prog.info? 4).map (·.size) = some 1 := by kernel_rfl
theorem infou1 : (Tryd.prog.info? 27).map (·.size) = some 1 := by kernel_rfl
theorem one55 (I : Nat → Bool) : (bL I).toArray.all (·.oneCell') = true := all_oneCell_toArray (fun v hv => by unfold bL at hv; obtain ⟨j, _, rfl⟩ := List.mem_map.1 hv; rfl)
theorem one56 (F : Nat → Int) : (uL F).toArray.all (·.oneCell') = true := all_oneCell_toArray (fun v hv => by unfold uL at hv; obtain ⟨j, _, rfl⟩ := List.mem_map.1 hv; rfl)
/-- a new block is written as it is -/
theorem stNew (W : World) (N : Nat) (C : Array Value) (t : TypeId) (hN : N = W.heap.size) (h1 : C.all (·.oneCell') = true) : (storeCells ⟨N, 0, none⟩ C.toList).run Tryd.prog (W.alloc (.cells C t)) = .ok () (W.alloc (.cells C t)) := by
  subst hN
  have := run_storeCells_from (P := Tryd.prog) W.heap.size t C.toList 0 C (W.alloc (.cells C t)) (heap_alloc_new W _) (by simp) (fun v hv => (Array.all_eq_true_iff_forall_mem.1 h1) v (by simpa using hv))
  rw [this, World.setRow_alloc_new]
  simp
/-- who was handed in, of the first k -/
def I1 (l : List Int) (k : Nat) : Nat → Bool := fun j => decide (1 ≤ j ∧ j ≤ 6 ∧ (j : Int) ∈ l.take k)
def F1 (f : Int → Int) (l : List Int) (k : Nat) : Nat → Int := fun j => if I1 l k j = true then f j else 0
theorem mem_succ {l : List Int} {k : Nat} {x y : Int} (h : l[k]? = some x) : y ∈ l.take (k + 1) ↔ y ∈ l.take k ∨ y = x := by
  rw [List.take_add_one, h, Option.toList_some, List.mem_append, List.mem_singleton]
theorem I1_out {l : List Int} {k : Nat} {x : Int} (h : l[k]? = some x) (hx : ¬ (1 ≤ x ∧ x ≤ 6)) : I1 l (k + 1) = I1 l k := by
  funext j
  unfold I1
  rw [decide_eq_decide, mem_succ h]
  constructor
  · rintro ⟨a, b, c | c⟩
    · exact ⟨a, b, c⟩
    · omega
  · rintro ⟨a, b, c⟩; exact ⟨a, b, Or.inl c⟩
theorem I1_old {l : List Int} {k m : Nat} (h : l[k]? = some (m : Int)) (hi : I1 l k m = true) : I1 l (k + 1) = I1 l k := by
  funext j
  unfold I1 at *
  rw [decide_eq_true_eq] at hi
  rw [decide_eq_decide, mem_succ h]
  constructor
  · rintro ⟨a, b, c | c⟩
    · exact ⟨a, b, c⟩
    · have : j = m := by omega
      rw [this]; exact hi
  · rintro ⟨a, b, c⟩; exact ⟨a, b, Or.inl c⟩
theorem I1_new {l : List Int} {k m : Nat} (h : l[k]? = some (m : Int)) (h1 : 1 ≤ m) (h6 : m ≤ 6) : I1 l (k + 1) = fun j => if j = m then true else I1 l k j := by
  funext j
  by_cases e : j = m
  · rw [if_pos e, e]
    unfold I1
    rw [decide_eq_true_eq, mem_succ h]
    exact ⟨h1, h6, Or.inr rfl⟩
  · rw [if_neg e]
    unfold I1
    rw [decide_eq_decide, mem_succ h]
    constructor
    · rintro ⟨a, b, c | c⟩
      · exact ⟨a, b, c⟩
      · omega
    · rintro ⟨a, b, c⟩; exact ⟨a, b, Or.inl c⟩
theorem F1_new {f : Int → Int} {l : List Int} {k m : Nat} (h : l[k]? = some (m : Int)) (h1 : 1 ≤ m) (h6 : m ≤ 6) : F1 f l (k + 1) = fun j => if j = m then f m else F1 f l k j := by
  funext j
  unfold F1
  rw [I1_new h h1 h6]
  by_cases e : j = m
  · simp [e]
  · simp [e]
theorem I1_zero (l : List Int) : I1 l 0 = fun _ => false := by funext j; unfold I1; simp
theorem F1_zero (f : Int → Int) (l : List Int) : F1 f l 0 = fun _ => 0 := by funext j; unfold F1; rw [I1_zero]; rfl
set_option maxRecDepth 8000 in
set_option maxHeartbeats 8000000 in
theorem rWalk_x (d : List UInt8) (hd : d.length = 32) (l : List Int) (a : Option Addr) (n c : Nat) (hnl : n = l.length) (W : World) (hG : GW W) (hv : RS lyI W a l) (hl : l.length ≤ 100000) :
    Calls Tryd.prog 14 #[.agg (dg d), .slice a n c] W fun e w' => ∃ a' c' out, e = .returned (.slice a' out.length c') ∧ out.length ≤ c' ∧ RI.IsW (RI.near (RI.place d)) l out ∧ RS lyI w' a' out ∧ GB W w' := by
  subst hnl
  have hz := hG.z
  obtain ⟨LD, hLD⟩ : ∃ LD : List Value, LD = d.map vb := ⟨_, rfl⟩
  have hdl : dg d = LD.toArray := by rw [hLD]; rfl
  have hLs : LD.length = 32 := by rw [hLD, List.length_map, hd]
  have hLi : (Tryd.prog.info? 23).map (·.size) = some LD.length := by rw [hLs]; exact info27
  have hs0 : (W.alloc (.cells LD.toArray 23)).heap.size = W.heap.size + 1 := by simp
  have HB0 : Hid (GB W (W.alloc (.cells LD.toArray 23))) := (GB.refl hG).alloc _
  have KP : Hid (∀ U, GB (W.alloc (.cells LD.toArray 23)) U → U.rangeAt W.heap.size 0 LD ∧ RS lyI U a l) := fun U hU => ⟨fun j v hv => by
    rw [Nat.zero_add, hU.b.cell (p := ⟨W.heap.size, j, none⟩) (by simp), Lib.cell_of_heap (heap_alloc_new _ _), List.getElem?_toArray]; exact hv, (hv.bl HB0.out.b).bl hU.b⟩
  have CN : Hid (∀ (m : Nat) U, 1 ≤ m → m ≤ 6 → GW U → Calls Tryd.prog 27 #[.agg LD.toArray, .int .i64 m] U fun e w' => e = .returned (.int .u64 (RI.near (RI.place d : Nat) m)) ∧ Bl U w') := fun m U h1 h2 hg => by
    rw [← hdl]
    exact (rNear_x d hd (m : Int) (GB.refl hg) (by omega) (by omega)).mono fun e w' ⟨e1, e2⟩ => ⟨e1, e2.b⟩
  have HG0 : Hid (GW (W.alloc (.cells LD.toArray 23))) := HB0.out.g
  rw [hdl]
  have HS1 : Hid (GB (W.alloc (.cells LD.toArray 23)) (((W.alloc (.cells LD.toArray 23)).alloc (.cells (bL fun _ => false).toArray 55)).alloc (.cells (uL fun _ => 0).toArray 56))) := ((GB.refl HG0.out).alloc _).alloc _
  have hR0 : RW (W.alloc (.cells LD.toArray 23)) (W.heap.size + 1) (W.heap.size + 1 + 1) (fun _ => false) (fun _ => 0) (((W.alloc (.cells LD.toArray 23)).alloc (.cells (bL fun _ => false).toArray 55)).alloc (.cells (uL fun _ => 0).toArray 56)) := by
    refine ⟨HS1.out, ?_, ?_⟩
    · have := heap_alloc_new (W.alloc (.cells LD.toArray 23)) (.cells (bL fun _ => false).toArray 55)
      rw [hs0] at this
      rw [((Bl.refl _).alloc _ : Bl ((W.alloc (.cells LD.toArray 23)).alloc (.cells (bL fun _ => false).toArray 55)) _).block _ (by simp)]
      exact this
    · have e : ((W.alloc (.cells LD.toArray 23)).alloc (.cells (bL fun _ => false).toArray 55)).heap.size = W.heap.size + 1 + 1 := by simp
      have := heap_alloc_new ((W.alloc (.cells LD.toArray 23)).alloc (.cells (bL fun _ => false).toArray 55)) (.cells (uL fun _ => 0).toArray 56)
      rwa [e] at this
  have hw0s : (W.alloc (.cells LD.toArray 23)).heap.size ≤ W.heap.size + 1 := by omega
  have hst1 := stNew (W.alloc (.cells LD.toArray 23)) (W.heap.size + 1) (bL fun _ => false).toArray 55 hs0.symm (one55 _)
  have hst2 := stNew ((W.alloc (.cells LD.toArray 23)).alloc (.cells (bL fun _ => false).toArray 55)) (W.heap.size + 1 + 1) (uL fun _ => 0).toArray 56 (by simp) (one56 _)
  have hsA : (bL fun _ => false).toArray.size = 7 := by rw [List.size_toArray, bL_len]
  have hsB : (uL fun _ => 0).toArray.size = 7 := by rw [List.size_toArray, uL_len]
  generalize hfd : RI.near ((RI.place d : Nat) : Int) = f at *
  clear hLD hdl hd hv hG hfd HS1
  go_enter Tryd.func14, Tryd.ntmps14
  go_upto_region 3 with go_skip
  generalize hw1 : (((W.alloc (.cells LD.toArray 23)).alloc (.cells (bL fun _ => false).toArray 55)).alloc (.cells (uL fun _ => 0).toArray 56)) = w1 at *
  generalize hw0 : W.alloc (.cells LD.toArray 23) = w0 at *
  clear hw0 hw1 hst1 hst2 hsA hsB
  go_wp2_with fail
  go_loopw [7, 8] (fun u7 _ wr => ∃ k : Nat, k ≤ l.length ∧ u7 = .int .i64 (k : Int) ∧ RW w0 (W.heap.size + 1) (W.heap.size + 1 + 1) (I1 l k) (F1 f l k) wr) (fun u7 _ _ => l.length - (intOf u7).toNat)
  case atStart => exact ⟨0, by omega, rfl, by rw [I1_zero, F1_zero]; exact hR0⟩
  case round =>
    clear hR0
    obtain ⟨k, hk, rfl, hR⟩ := hrel
    by_cases hlt : k < l.length
    · obtain ⟨x, hx⟩ : ∃ x, l[k]? = some x := ⟨l[k], List.getElem?_eq_getElem hlt⟩
      obtain ⟨b2, o2, hae, hb2, hcell⟩ := (KP.out wr hR.g).2.at1 hx
      have HR : Hid (RW w0 (W.heap.size + 1) (W.heap.size + 1 + 1) (I1 l k) (F1 f l k) wr) := hR
      clear hb2 hR
      by_cases hr : 1 ≤ x ∧ x ≤ 6
      · obtain ⟨m, rfl⟩ : ∃ m : Nat, x = (m : Int) := ⟨x.toNat, by omega⟩
        obtain ⟨hm1, hm6⟩ := hr
        have hm7 : m < 7 := by omega
        have hci := HR.out.cI hm7
        cases hq : I1 l k m
        · have HI := hidI (I1_new hx (by omega) (by omega))
          have HF := hidI (F1_new (f := f) hx (by omega) (by omega))
          rw [hq] at hci
          have CN1 : Hid (∀ U, GW U → Calls Tryd.prog 27 #[.agg LD.toArray, .int .i64 m] U fun e w' => e = .returned (.int .u64 (f m)) ∧ Bl U w') := fun U hg => CN.out m U (by omega) (by omega) hg
          have HLs : Hid (∀ J : Nat → Bool, m < (bL J).length) := fun J => by rw [bL_len]; omega
          have HLu : Hid (∀ J : Nat → Int, m < (uL J).length) := fun J => by rw [uL_len]; omega
          clear hx hq CN
          subst hae
          go_wp2_with (first
            | go_skip
            | (refine wl_setU rfl 4 _ _ rfl (W.heap.size + 1) m (.bool true) rfl rfl rfl infob1 (bL (I1 l k)) (bL (I1 l (k + 1))) 55 HR.out.i (HLs.out _) (by rw [bL_set, HI.out]) ?_; intro w2 g1 g2; have HR2 : Hid (RW w0 (W.heap.size + 1) (W.heap.size + 1 + 1) (I1 l (k + 1)) (F1 f l k) w2) := HR.out.setI HG0.out g2 hw0s (by omega) g1; clear HR hci hcell g1 g2)
            | (refine wl_midG (by rfl) 23 _ rfl W.heap.size 0 rfl LD _ (KP.out _ HR2.out.g).1 und27 rfl hLi ?_)
            | (go_at_call 27; refine (CN1.out _ HR2.out.g.g).mono ?_; clear CN1; rintro e w3 ⟨rfl, g3⟩; have HR3 := hidI (HR2.out.step g3); clear HR2 g3)
            | (refine wl_setU rfl 27 _ _ rfl (W.heap.size + 1 + 1) m (.int .u64 (f m)) rfl rfl rfl infou1 (uL (F1 f l k)) (uL (F1 f l (k + 1))) 56 HR3.out.f (HLu.out _) (by rw [uL_set, HF.out]) ?_; intro w4 g1 g2; have HR4 : Hid (RW w0 (W.heap.size + 1) (W.heap.size + 1 + 1) (I1 l (k + 1)) (F1 f l (k + 1)) w4) := HR3.out.setF HG0.out g2 (by omega) (by omega) g1; clear HR3 g1 g2))
          go_roundw
          case rel => exact ⟨k + 1, by omega, by go_num, HR4.out⟩
          case measure => simp [intOf] <;> omega
        · have HI := hidI (I1_old hx hq)
          rw [hq] at hci
          clear hx hq CN
          subst hae
          go_wp2_with go_skip
          go_roundw
          case rel => exact ⟨k + 1, by omega, by go_num, by have := HI.out; unfold F1; rw [this]; exact HR.out⟩
          case measure => simp [intOf] <;> omega
      · have HI := hidI (I1_out hx hr)
        clear hx CN
        subst hae
        by_cases h1 : 1 ≤ x
        · have h6 : ¬ x ≤ 6 := by omega
          clear hr
          go_wp2_with go_skip
          go_roundw
          case rel => exact ⟨k + 1, by omega, by go_num, by have := HI.out; unfold F1; rw [this]; exact HR.out⟩
          case measure => simp [intOf] <;> omega
        · clear hr
          go_wp2_with go_skip
          go_roundw
          case rel => exact ⟨k + 1, by omega, by go_num, by have := HI.out; unfold F1; rw [this]; exact HR.out⟩
          case measure => simp [intOf] <;> omega
    · obtain rfl : k = l.length := by omega
      have hSel : Sel f l [] (I1 l l.length) 0 := sel_start f l _ (fun m h1 h2 => by unfold I1; rw [decide_eq_true_eq, List.take_length]; exact ⟨fun h => h.2.2, fun h => ⟨h1, h2, h⟩⟩)
      have hFf : ∀ m, I1 l l.length m = true → F1 f l l.length m = f m := fun m h => by unfold F1; rw [if_pos h]
      have hR1 : RW w0 (W.heap.size + 1) (W.heap.size + 1 + 1) (I1 l l.length) (F1 f l l.length) (wr.alloc (.cells #[] 3)) := hR.step ((Bl.refl wr).alloc _)
      have hOa := own_emptyR wr 3 1
      have hN1 : W.heap.size + 1 < wr.heap.size := lt_heap hR.i
      have hN2 : W.heap.size + 1 + 1 < wr.heap.size := lt_heap hR.f
      have hN0 : w0.heap.size ≤ wr.heap.size := hR.g.b.size
      clear hR CN hlt hk KP
      generalize I1 l l.length = I0 at *
      generalize F1 f l l.length = F0 at *
      generalize hwq : wr = wq at *
      clear hwq
      go_wp2_with fail
      go_loopw [9, 10, 11, 12] (fun u9 u10 _ _ wr => ∃ (k : Nat) (o : List Int) (I : Nat → Bool), k ≤ 6 ∧ u10 = .int .i64 (k : Int) ∧ Sel f l o I k ∧ (∀ m, I m = true → F0 m = f m) ∧ RW w0 (W.heap.size + 1) (W.heap.size + 1 + 1) I F0 wr ∧ wr.ownsRow wq.heap.size 3 1 u9 o.length (flG lyI o) ∧ wq.heap.size ≤ wr.heap.size) (fun _ u10 _ _ _ => 6 - (intOf u10).toNat)
      case atStart => exact ⟨0, [], I0, by omega, rfl, hSel, hFf, hR1, hOa, by simp⟩
      case round =>
        clear hSel hFf hR1 hOa
        obtain ⟨k, o, I, hk, rfl, hSel, hFf, hR, hO, hsz⟩ := hrel
        have HSel : Hid (Sel f l o I k) := hSel
        have HFf : Hid (∀ m, I m = true → F0 m = f m) := hFf
        have HR : Hid (RW w0 (W.heap.size + 1) (W.heap.size + 1 + 1) I F0 wr) := hR
        have HO : Hid (wr.ownsRow wq.heap.size 3 1 u9 o.length (flG lyI o)) := hO
        clear hSel hFf hR hO
        by_cases hk6 : k < 6
        · generalize hwr : wr = wo at *
          clear hwr
          go_wp2_with fail
          go_loopw [11, 12] (fun u11 u12 wr => ∃ n b : Nat, 1 ≤ n ∧ n ≤ 7 ∧ u12 = .int .i64 (n : Int) ∧ u11 = .int .i64 (b : Int) ∧ Bst f I n b ∧ Bl wo wr) (fun _ u12 _ => 7 - (intOf u12).toNat)
          case atStart => exact ⟨1, 0, by omega, by omega, rfl, rfl, bst_zero f I, Bl.refl _⟩
          case round =>
            obtain ⟨n, b, hn1, hn7, rfl, rfl, hB, hBx⟩ := hrel
            have HBx : Hid (Bl wo wr) := hBx
            have HBst : Hid (Bst f I n b) := hB
            clear hBx hB
            by_cases hn : n < 7
            · have hci := HR.out.cI hn
              cases hq : I n
              · rw [hq] at hci
                have HNX := hidI (HBst.out.no hq)
                have KD : Hid (∀ U, Bl wo U → U.cell? ⟨W.heap.size + 1, n, none⟩ = some (.bool false)) := fun U hU => by rw [hU.cell (lt_heap HR.out.i)]; exact hci
                clear hci hq
                go_upto_region 18 with fail
                refine wp_region_noPanic ?_
                refine wp_region_held_drew (S := fun U => U.cell? ⟨W.heap.size + 1, n, none⟩ = some (.bool false)) (by kernel_rfl) (KD.out _ (HBx.out.drewN 1)) (fun hHeld => ?_)
                refine wpAnyH_take (i := 0) rfl (by kernel_rfl) (by kernel_rfl) (by kernel_rfl) (fun _ _ _ h => h) (yi_move (by kernel_rfl) rfl rfl) (by assumption) ?_
                simp only [Act.put, List.getElem_toArray, List.getElem_cons_succ, List.getElem_cons_zero, List.setIfInBounds_toArray, List.set_cons_zero, List.set_cons_succ]
                refine wpAnyH_take (i := 1) (v := ?_) rfl (by kernel_rfl) (by kernel_rfl) (by kernel_rfl) (fun _ _ _ h => h) (Or.inl ⟨by kernel_rfl, ?_⟩) (by assumption) ?_
                rotate_left
                · (intro w hSw; (try dsimp only at hSw); go_simp; (try with_reducible rfl))
                simp only [Act.put, List.getElem_toArray, List.getElem_cons_succ, List.getElem_cons_zero, List.setIfInBounds_toArray, List.set_cons_zero, List.set_cons_succ]
                refine wpAnyH_take (i := 2) (v := ?_) rfl (by kernel_rfl) (by kernel_rfl) (by kernel_rfl) (fun _ _ _ h => h) (Or.inl ⟨by kernel_rfl, ?_⟩) (by assumption) ?_
                rotate_left
                · (intro w hSw; (try dsimp only at hSw); go_simp; (try with_reducible rfl))
                simp only [Act.put, List.getElem_toArray, List.getElem_cons_succ, List.getElem_cons_zero, List.setIfInBounds_toArray, List.set_cons_zero, List.set_cons_succ]
                refine wpAnyH_take (i := 3) rfl (by kernel_rfl) (by kernel_rfl) (by kernel_rfl) (fun _ _ _ h => h) (yi_move (by kernel_rfl) rfl rfl) (by assumption) ?_
                simp only [Act.put, List.getElem_toArray, List.getElem_cons_succ, List.getElem_cons_zero, List.setIfInBounds_toArray, List.set_cons_zero, List.set_cons_succ]
                refine wpAnyH_take (i := 4) (v := undef) rfl (by kernel_rfl) (by kernel_rfl) (by kernel_rfl) (fun _ _ _ h => h) (Or.inr ⟨by kernel_rfl, rfl⟩) (by assumption) ?_
                simp only [Act.put, List.getElem_toArray, List.getElem_cons_succ, List.getElem_cons_zero, List.setIfInBounds_toArray, List.set_cons_zero, List.set_cons_succ]
                refine wpAnyH_take (i := 5) (v := undef) rfl (by kernel_rfl) (by kernel_rfl) (by kernel_rfl) (fun _ _ _ h => h) (Or.inr ⟨by kernel_rfl, rfl⟩) (by assumption) ?_
                simp only [Act.put, List.getElem_toArray, List.getElem_cons_succ, List.getElem_cons_zero, List.setIfInBounds_toArray, List.set_cons_zero, List.set_cons_succ]
                refine wpAnyH_take (i := 6) (v := undef) rfl (by kernel_rfl) (by kernel_rfl) (by kernel_rfl) (fun _ _ _ h => h) (Or.inr ⟨by kernel_rfl, rfl⟩) (by assumption) ?_
                simp only [Act.put, List.getElem_toArray, List.getElem_cons_succ, List.getElem_cons_zero, List.setIfInBounds_toArray, List.set_cons_zero, List.set_cons_succ]
                refine wpAnyH_take (i := 7) (v := undef) rfl (by kernel_rfl) (by kernel_rfl) (by kernel_rfl) (fun _ _ _ h => h) (Or.inr ⟨by kernel_rfl, rfl⟩) (by assumption) ?_
                simp only [Act.put, List.getElem_toArray, List.getElem_cons_succ, List.getElem_cons_zero, List.setIfInBounds_toArray, List.set_cons_zero, List.set_cons_succ]
                refine wpAnyH_take (i := 8) (v := undef) rfl (by kernel_rfl) (by kernel_rfl) (by kernel_rfl) (fun _ _ _ h => h) (Or.inr ⟨by kernel_rfl, rfl⟩) (by assumption) ?_
                simp only [Act.put, List.getElem_toArray, List.getElem_cons_succ, List.getElem_cons_zero, List.setIfInBounds_toArray, List.set_cons_zero, List.set_cons_succ]
                refine wpAnyH_take (i := 9) (v := undef) rfl (by kernel_rfl) (by kernel_rfl) (by kernel_rfl) (fun _ _ _ h => h) (Or.inr ⟨by kernel_rfl, rfl⟩) (by assumption) ?_
                simp only [Act.put, List.getElem_toArray, List.getElem_cons_succ, List.getElem_cons_zero, List.setIfInBounds_toArray, List.set_cons_zero, List.set_cons_succ]
                refine wpAnyH_take (i := 10) (v := undef) rfl (by kernel_rfl) (by kernel_rfl) (by kernel_rfl) (fun _ _ _ h => h) (Or.inr ⟨by kernel_rfl, rfl⟩) (by assumption) ?_
                simp only [Act.put, List.getElem_toArray, List.getElem_cons_succ, List.getElem_cons_zero, List.setIfInBounds_toArray, List.set_cons_zero, List.set_cons_succ]
                refine wpAnyH_take (i := 11) (v := undef) rfl (by kernel_rfl) (by kernel_rfl) (by kernel_rfl) (fun _ _ _ h => h) (Or.inr ⟨by kernel_rfl, rfl⟩) (by assumption) ?_
                simp only [Act.put, List.getElem_toArray, List.getElem_cons_succ, List.getElem_cons_zero, List.setIfInBounds_toArray, List.set_cons_zero, List.set_cons_succ]
                refine wpAnyH_take (i := 12) (v := undef) rfl (by kernel_rfl) (by kernel_rfl) (by kernel_rfl) (fun _ _ _ h => h) (Or.inr ⟨by kernel_rfl, rfl⟩) (by assumption) ?_
                simp only [Act.put, List.getElem_toArray, List.getElem_cons_succ, List.getElem_cons_zero, List.setIfInBounds_toArray, List.set_cons_zero, List.set_cons_succ]
                refine wpAnyH_take (i := 13) (v := undef) rfl (by kernel_rfl) (by kernel_rfl) (by kernel_rfl) (fun _ _ _ h => h) (Or.inr ⟨by kernel_rfl, rfl⟩) (by assumption) ?_
                simp only [Act.put, List.getElem_toArray, List.getElem_cons_succ, List.getElem_cons_zero, List.setIfInBounds_toArray, List.set_cons_zero, List.set_cons_succ]
                refine wpAnyH_take (i := 14) (v := undef) rfl (by kernel_rfl) (by kernel_rfl) (by kernel_rfl) (fun _ _ _ h => h) (Or.inr ⟨by kernel_rfl, rfl⟩) (by assumption) ?_
                simp only [Act.put, List.getElem_toArray, List.getElem_cons_succ, List.getElem_cons_zero, List.setIfInBounds_toArray, List.set_cons_zero, List.set_cons_succ]
                refine wpAnyH_take (i := 15) (v := .bool false) rfl (by kernel_rfl) (by kernel_rfl) (by kernel_rfl) (fun _ _ _ h => h) (Or.inl ⟨by kernel_rfl, by (intro w hSw; go_simp; (try with_reducible rfl))⟩) (by assumption) ?_
                simp only [Act.put, List.getElem_toArray, List.getElem_cons_succ, List.getElem_cons_zero, List.setIfInBounds_toArray, List.set_cons_zero, List.set_cons_succ]
                refine wpAnyH_done (by kernel_rfl) ?_ _
                refine NoPanic.normal ?_
                go_wp2_with fail
                go_roundw
                case rel => exact ⟨n + 1, b, by omega, by omega, by go_num, rfl, HNX.out, HBx.out.drewN 1⟩
                case measure => simp [intOf] <;> omega
              · rw [hq] at hci
                by_cases hb0 : b = 0
                · subst hb0
                  have HNX := hidI (HBst.out.first hn1 hq)
                  have KD : Hid (∀ U, Bl wo U → U.cell? ⟨W.heap.size + 1, n, none⟩ = some (.bool true)) := fun U hU => by rw [hU.cell (lt_heap HR.out.i)]; exact hci
                  clear hci hq
                  have hz0 : ((0 : Nat) : Int) = 0 := rfl
                  rw [hz0]
                  go_upto_region 18 with fail
                  refine wp_region_noPanic ?_
                  refine wp_region_held_drew (S := fun U => U.cell? ⟨W.heap.size + 1, n, none⟩ = some (.bool true)) (by kernel_rfl) (KD.out _ (HBx.out.drewN 1)) (fun hHeld => ?_)
                  refine wpAnyH_take (i := 0) rfl (by kernel_rfl) (by kernel_rfl) (by kernel_rfl) (fun _ _ _ h => h) (yi_move (by kernel_rfl) rfl rfl) (by assumption) ?_
                  simp only [Act.put, List.getElem_toArray, List.getElem_cons_succ, List.getElem_cons_zero, List.setIfInBounds_toArray, List.set_cons_zero, List.set_cons_succ]
                  refine wpAnyH_take (i := 1) (v := ?_) rfl (by kernel_rfl) (by kernel_rfl) (by kernel_rfl) (fun _ _ _ h => h) (Or.inl ⟨by kernel_rfl, ?_⟩) (by assumption) ?_
                  rotate_left
                  · (intro w hSw; (try dsimp only at hSw); go_simp; (try with_reducible rfl))
                  simp only [Act.put, List.getElem_toArray, List.getElem_cons_succ, List.getElem_cons_zero, List.setIfInBounds_toArray, List.set_cons_zero, List.set_cons_succ]
                  refine wpAnyH_take (i := 2) (v := ?_) rfl (by kernel_rfl) (by kernel_rfl) (by kernel_rfl) (fun _ _ _ h => h) (Or.inl ⟨by kernel_rfl, ?_⟩) (by assumption) ?_
                  rotate_left
                  · (intro w hSw; (try dsimp only at hSw); go_simp; (try with_reducible rfl))
                  simp only [Act.put, List.getElem_toArray, List.getElem_cons_succ, List.getElem_cons_zero, List.setIfInBounds_toArray, List.set_cons_zero, List.set_cons_succ]
                  refine wpAnyH_take (i := 3) rfl (by kernel_rfl) (by kernel_rfl) (by kernel_rfl) (fun _ _ _ h => h) (yi_move (by kernel_rfl) rfl rfl) (by assumption) ?_
                  simp only [Act.put, List.getElem_toArray, List.getElem_cons_succ, List.getElem_cons_zero, List.setIfInBounds_toArray, List.set_cons_zero, List.set_cons_succ]
                  refine wpAnyH_take (i := 4) rfl (by kernel_rfl) (by kernel_rfl) (by kernel_rfl) (fun _ _ _ h => h) (yi_move (by kernel_rfl) rfl rfl) (by assumption) ?_
                  simp only [Act.put, List.getElem_toArray, List.getElem_cons_succ, List.getElem_cons_zero, List.setIfInBounds_toArray, List.set_cons_zero, List.set_cons_succ]
                  refine wpAnyH_take (i := 5) (v := ?_) rfl (by kernel_rfl) (by kernel_rfl) (by kernel_rfl) (fun _ _ _ h => h) (Or.inl ⟨by kernel_rfl, ?_⟩) (by assumption) ?_
                  rotate_left
                  · (intro w hSw; (try dsimp only at hSw); go_simp; (try with_reducible rfl))
                  simp only [Act.put, List.getElem_toArray, List.getElem_cons_succ, List.getElem_cons_zero, List.setIfInBounds_toArray, List.set_cons_zero, List.set_cons_succ]
                  refine wpAnyH_take (i := 6) rfl (by kernel_rfl) (by kernel_rfl) (by kernel_rfl) (fun _ _ _ h => h) (yi_move (by kernel_rfl) rfl rfl) (by assumption) ?_
                  simp only [Act.put, List.getElem_toArray, List.getElem_cons_succ, List.getElem_cons_zero, List.setIfInBounds_toArray, List.set_cons_zero, List.set_cons_succ]
                  refine wpAnyH_take (i := 7) (v := undef) rfl (by kernel_rfl) (by kernel_rfl) (by kernel_rfl) (fun _ _ _ h => h) (Or.inr ⟨by kernel_rfl, rfl⟩) (by assumption) ?_
                  simp only [Act.put, List.getElem_toArray, List.getElem_cons_succ, List.getElem_cons_zero, List.setIfInBounds_toArray, List.set_cons_zero, List.set_cons_succ]
                  refine wpAnyH_take (i := 8) (v := undef) rfl (by kernel_rfl) (by kernel_rfl) (by kernel_rfl) (fun _ _ _ h => h) (Or.inr ⟨by kernel_rfl, rfl⟩) (by assumption) ?_
                  simp only [Act.put, List.getElem_toArray, List.getElem_cons_succ, List.getElem_cons_zero, List.setIfInBounds_toArray, List.set_cons_zero, List.set_cons_succ]
                  refine wpAnyH_take (i := 9) (v := undef) rfl (by kernel_rfl) (by kernel_rfl) (by kernel_rfl) (fun _ _ _ h => h) (Or.inr ⟨by kernel_rfl, rfl⟩) (by assumption) ?_
                  simp only [Act.put, List.getElem_toArray, List.getElem_cons_succ, List.getElem_cons_zero, List.setIfInBounds_toArray, List.set_cons_zero, List.set_cons_succ]
                  refine wpAnyH_take (i := 10) (v := undef) rfl (by kernel_rfl) (by kernel_rfl) (by kernel_rfl) (fun _ _ _ h => h) (Or.inr ⟨by kernel_rfl, rfl⟩) (by assumption) ?_
                  simp only [Act.put, List.getElem_toArray, List.getElem_cons_succ, List.getElem_cons_zero, List.setIfInBounds_toArray, List.set_cons_zero, List.set_cons_succ]
                  refine wpAnyH_take (i := 11) (v := undef) rfl (by kernel_rfl) (by kernel_rfl) (by kernel_rfl) (fun _ _ _ h => h) (Or.inr ⟨by kernel_rfl, rfl⟩) (by assumption) ?_
                  simp only [Act.put, List.getElem_toArray, List.getElem_cons_succ, List.getElem_cons_zero, List.setIfInBounds_toArray, List.set_cons_zero, List.set_cons_succ]
                  refine wpAnyH_take (i := 12) (v := undef) rfl (by kernel_rfl) (by kernel_rfl) (by kernel_rfl) (fun _ _ _ h => h) (Or.inr ⟨by kernel_rfl, rfl⟩) (by assumption) ?_
                  simp only [Act.put, List.getElem_toArray, List.getElem_cons_succ, List.getElem_cons_zero, List.setIfInBounds_toArray, List.set_cons_zero, List.set_cons_succ]
                  refine wpAnyH_take (i := 13) (v := undef) rfl (by kernel_rfl) (by kernel_rfl) (by kernel_rfl) (fun _ _ _ h => h) (Or.inr ⟨by kernel_rfl, rfl⟩) (by assumption) ?_
                  simp only [Act.put, List.getElem_toArray, List.getElem_cons_succ, List.getElem_cons_zero, List.setIfInBounds_toArray, List.set_cons_zero, List.set_cons_succ]
                  refine wpAnyH_take (i := 14) (v := ?_) rfl (by kernel_rfl) (by kernel_rfl) (by kernel_rfl) (fun _ _ _ h => h) (Or.inl ⟨by kernel_rfl, ?_⟩) (by assumption) ?_
                  rotate_left
                  · (intro w hSw; (try dsimp only at hSw); go_simp; (try with_reducible rfl))
                  simp only [Act.put, List.getElem_toArray, List.getElem_cons_succ, List.getElem_cons_zero, List.setIfInBounds_toArray, List.set_cons_zero, List.set_cons_succ]
                  refine wpAnyH_take (i := 15) (v := .bool true) rfl (by kernel_rfl) (by kernel_rfl) (by kernel_rfl) (fun _ _ _ h => h) (Or.inl ⟨by kernel_rfl, by (intro w hSw; go_simp; (try with_reducible rfl))⟩) (by assumption) ?_
                  simp only [Act.put, List.getElem_toArray, List.getElem_cons_succ, List.getElem_cons_zero, List.setIfInBounds_toArray, List.set_cons_zero, List.set_cons_succ]
                  refine wpAnyH_done (by kernel_rfl) ?_ _
                  refine NoPanic.normal ?_
                  go_wp2_with fail
                  go_roundw
                  case rel => exact ⟨n + 1, n, by omega, by omega, by go_num, rfl, HNX.out, HBx.out.drewN 1⟩
                  case measure => simp [intOf] <;> omega
                · have hbn : b < n ∧ I b = true := by rcases HBst.out with g | g; exact absurd g.1 hb0; exact ⟨g.2.1, g.2.2.1⟩
                  have hb7 : b < 7 := by omega
                  have hfn := HR.out.cF hn
                  have hfb := HR.out.cF hb7
                  rw [HFf.out n hq] at hfn
                  rw [HFf.out b hbn.2] at hfb
                  have KD : Hid (∀ U, Bl wo U → U.cell? ⟨W.heap.size + 1, n, none⟩ = some (.bool true) ∧ U.cell? ⟨W.heap.size + 1 + 1, n, none⟩ = some (.int .u64 (f n)) ∧ U.cell? ⟨W.heap.size + 1 + 1, b, none⟩ = some (.int .u64 (f b))) := fun U hU => ⟨by rw [hU.cell (lt_heap HR.out.i)]; exact hci, by rw [hU.cell (lt_heap HR.out.f)]; exact hfn, by rw [hU.cell (lt_heap HR.out.f)]; exact hfb⟩
                  have hbz : ((b : Int) == 0) = false := by simp; omega
                  have hbz2 : ¬ (b : Int) = 0 := by omega
                  have hbi7 : (b : Int) < 7 := by omega
                  by_cases hff : f n < f b
                  · have HNX := hidI (HBst.out.better hb0 hq hff)
                    clear hci hq hfn hfb hbn
                    go_upto_region 18 with fail
                    refine wp_region_noPanic ?_
                    refine wp_region_held_drew (S := fun U => U.cell? ⟨W.heap.size + 1, n, none⟩ = some (.bool true) ∧ U.cell? ⟨W.heap.size + 1 + 1, n, none⟩ = some (.int .u64 (f n)) ∧ U.cell? ⟨W.heap.size + 1 + 1, b, none⟩ = some (.int .u64 (f b))) (by kernel_rfl) (KD.out _ (HBx.out.drewN 1)) (fun hHeld => ?_)
                    refine wpAnyH_take (i := 0) rfl (by kernel_rfl) (by kernel_rfl) (by kernel_rfl) (fun _ _ _ h => h) (yi_move (by kernel_rfl) rfl rfl) (by assumption) ?_
                    simp only [Act.put, List.getElem_toArray, List.getElem_cons_succ, List.getElem_cons_zero, List.setIfInBounds_toArray, List.set_cons_zero, List.set_cons_succ]
                    refine wpAnyH_take (i := 1) (v := ?_) rfl (by kernel_rfl) (by kernel_rfl) (by kernel_rfl) (fun _ _ _ h => h) (Or.inl ⟨by kernel_rfl, ?_⟩) (by assumption) ?_
                    rotate_left
                    · (intro w hSw; (try dsimp only at hSw); go_simp; (try with_reducible rfl))
                    simp only [Act.put, List.getElem_toArray, List.getElem_cons_succ, List.getElem_cons_zero, List.setIfInBounds_toArray, List.set_cons_zero, List.set_cons_succ]
                    refine wpAnyH_take (i := 2) (v := ?_) rfl (by kernel_rfl) (by kernel_rfl) (by kernel_rfl) (fun _ _ _ h => h) (Or.inl ⟨by kernel_rfl, ?_⟩) (by assumption) ?_
                    rotate_left
                    · (intro w hSw; (try dsimp only at hSw); go_simp; (try with_reducible rfl))
                    simp only [Act.put, List.getElem_toArray, List.getElem_cons_succ, List.getElem_cons_zero, List.setIfInBounds_toArray, List.set_cons_zero, List.set_cons_succ]
                    refine wpAnyH_take (i := 3) rfl (by kernel_rfl) (by kernel_rfl) (by kernel_rfl) (fun _ _ _ h => h) (yi_move (by kernel_rfl) rfl rfl) (by assumption) ?_
                    simp only [Act.put, List.getElem_toArray, List.getElem_cons_succ, List.getElem_cons_zero, List.setIfInBounds_toArray, List.set_cons_zero, List.set_cons_succ]
                    refine wpAnyH_take (i := 4) rfl (by kernel_rfl) (by kernel_rfl) (by kernel_rfl) (fun _ _ _ h => h) (yi_move (by kernel_rfl) rfl rfl) (by assumption) ?_
                    simp only [Act.put, List.getElem_toArray, List.getElem_cons_succ, List.getElem_cons_zero, List.setIfInBounds_toArray, List.set_cons_zero, List.set_cons_succ]
                    refine wpAnyH_take (i := 5) (v := ?_) rfl (by kernel_rfl) (by kernel_rfl) (by kernel_rfl) (fun _ _ _ h => h) (Or.inl ⟨by kernel_rfl, ?_⟩) (by assumption) ?_
                    rotate_left
                    · (intro w hSw; (try dsimp only at hSw); go_simp; (try with_reducible rfl))
                    simp only [Act.put, List.getElem_toArray, List.getElem_cons_succ, List.getElem_cons_zero, List.setIfInBounds_toArray, List.set_cons_zero, List.set_cons_succ]
                    refine wpAnyH_take (i := 6) rfl (by kernel_rfl) (by kernel_rfl) (by kernel_rfl) (fun _ _ _ h => h) (yi_move (by kernel_rfl) rfl rfl) (by assumption) ?_
                    simp only [Act.put, List.getElem_toArray, List.getElem_cons_succ, List.getElem_cons_zero, List.setIfInBounds_toArray, List.set_cons_zero, List.set_cons_succ]
                    refine wpAnyH_take (i := 7) rfl (by kernel_rfl) (by kernel_rfl) (by kernel_rfl) (fun _ _ _ h => h) (yi_move (by kernel_rfl) rfl rfl) (by assumption) ?_
                    simp only [Act.put, List.getElem_toArray, List.getElem_cons_succ, List.getElem_cons_zero, List.setIfInBounds_toArray, List.set_cons_zero, List.set_cons_succ]
                    refine wpAnyH_take (i := 8) (v := ?_) rfl (by kernel_rfl) (by kernel_rfl) (by kernel_rfl) (fun _ _ _ h => h) (Or.inl ⟨by kernel_rfl, ?_⟩) (by assumption) ?_
                    rotate_left
                    · (intro w hSw; (try dsimp only at hSw); go_simp; (try with_reducible rfl))
                    simp only [Act.put, List.getElem_toArray, List.getElem_cons_succ, List.getElem_cons_zero, List.setIfInBounds_toArray, List.set_cons_zero, List.set_cons_succ]
                    refine wpAnyH_take (i := 9) (v := ?_) rfl (by kernel_rfl) (by kernel_rfl) (by kernel_rfl) (fun _ _ _ h => h) (Or.inl ⟨by kernel_rfl, ?_⟩) (by assumption) ?_
                    rotate_left
                    · (intro w hSw; (try dsimp only at hSw); go_simp; (try with_reducible rfl))
                    simp only [Act.put, List.getElem_toArray, List.getElem_cons_succ, List.getElem_cons_zero, List.setIfInBounds_toArray, List.set_cons_zero, List.set_cons_succ]
                    refine wpAnyH_take (i := 10) rfl (by kernel_rfl) (by kernel_rfl) (by kernel_rfl) (fun _ _ _ h => h) (yi_move (by kernel_rfl) rfl rfl) (by assumption) ?_
                    simp only [Act.put, List.getElem_toArray, List.getElem_cons_succ, List.getElem_cons_zero, List.setIfInBounds_toArray, List.set_cons_zero, List.set_cons_succ]
                    refine wpAnyH_take (i := 11) (v := ?_) rfl (by kernel_rfl) (by kernel_rfl) (by kernel_rfl) (fun _ _ _ h => h) (Or.inl ⟨by kernel_rfl, ?_⟩) (by assumption) ?_
                    rotate_left
                    · (intro w hSw; (try dsimp only at hSw); go_simp; (try with_reducible rfl))
                    simp only [Act.put, List.getElem_toArray, List.getElem_cons_succ, List.getElem_cons_zero, List.setIfInBounds_toArray, List.set_cons_zero, List.set_cons_succ]
                    refine wpAnyH_take (i := 12) (v := ?_) rfl (by kernel_rfl) (by kernel_rfl) (by kernel_rfl) (fun _ _ _ h => h) (Or.inl ⟨by kernel_rfl, ?_⟩) (by assumption) ?_
                    rotate_left
                    · (intro w hSw; (try dsimp only at hSw); go_simp; (try with_reducible rfl))
                    simp only [Act.put, List.getElem_toArray, List.getElem_cons_succ, List.getElem_cons_zero, List.setIfInBounds_toArray, List.set_cons_zero, List.set_cons_succ]
                    refine wpAnyH_take (i := 13) (v := ?_) rfl (by kernel_rfl) (by kernel_rfl) (by kernel_rfl) (fun _ _ _ h => h) (Or.inl ⟨by kernel_rfl, ?_⟩) (by assumption) ?_
                    rotate_left
                    · (intro w hSw; (try dsimp only at hSw); go_simp; (try with_reducible rfl))
                    simp only [Act.put, List.getElem_toArray, List.getElem_cons_succ, List.getElem_cons_zero, List.setIfInBounds_toArray, List.set_cons_zero, List.set_cons_succ]
                    refine wpAnyH_take (i := 14) (v := ?_) rfl (by kernel_rfl) (by kernel_rfl) (by kernel_rfl) (fun _ _ _ h => h) (Or.inl ⟨by kernel_rfl, ?_⟩) (by assumption) ?_
                    rotate_left
                    · (intro w hSw; (try dsimp only at hSw); go_simp; (try with_reducible rfl))
                    simp only [Act.put, List.getElem_toArray, List.getElem_cons_succ, List.getElem_cons_zero, List.setIfInBounds_toArray, List.set_cons_zero, List.set_cons_succ]
                    refine wpAnyH_take (i := 15) (v := .bool true) rfl (by kernel_rfl) (by kernel_rfl) (by kernel_rfl) (fun _ _ _ h => h) (Or.inl ⟨by kernel_rfl, by (intro w hSw; go_simp; (try with_reducible rfl))⟩) (by assumption) ?_
                    simp only [Act.put, List.getElem_toArray, List.getElem_cons_succ, List.getElem_cons_zero, List.setIfInBounds_toArray, List.set_cons_zero, List.set_cons_succ]
                    refine wpAnyH_done (by kernel_rfl) ?_ _
                    refine NoPanic.normal ?_
                    go_wp2_with fail
                    go_roundw
                    case rel => exact ⟨n + 1, n, by omega, by omega, by go_num, rfl, HNX.out, HBx.out.drewN 1⟩
                    case measure => simp [intOf] <;> omega
                  · have HNX := hidI (HBst.out.worse hb0 hff)
                    clear hci hq hfn hfb hbn
                    go_upto_region 18 with fail
                    refine wp_region_noPanic ?_
                    refine wp_region_held_drew (S := fun U => U.cell? ⟨W.heap.size + 1, n, none⟩ = some (.bool true) ∧ U.cell? ⟨W.heap.size + 1 + 1, n, none⟩ = some (.int .u64 (f n)) ∧ U.cell? ⟨W.heap.size + 1 + 1, b, none⟩ = some (.int .u64 (f b))) (by kernel_rfl) (KD.out _ (HBx.out.drewN 1)) (fun hHeld => ?_)
                    refine wpAnyH_take (i := 0) rfl (by kernel_rfl) (by kernel_rfl) (by kernel_rfl) (fun _ _ _ h => h) (yi_move (by kernel_rfl) rfl rfl) (by assumption) ?_
                    simp only [Act.put, List.getElem_toArray, List.getElem_cons_succ, List.getElem_cons_zero, List.setIfInBounds_toArray, List.set_cons_zero, List.set_cons_succ]
                    refine wpAnyH_take (i := 1) (v := ?_) rfl (by kernel_rfl) (by kernel_rfl) (by kernel_rfl) (fun _ _ _ h => h) (Or.inl ⟨by kernel_rfl, ?_⟩) (by assumption) ?_
                    rotate_left
                    · (intro w hSw; (try dsimp only at hSw); go_simp; (try with_reducible rfl))
                    simp only [Act.put, List.getElem_toArray, List.getElem_cons_succ, List.getElem_cons_zero, List.setIfInBounds_toArray, List.set_cons_zero, List.set_cons_succ]
                    refine wpAnyH_take (i := 2) (v := ?_) rfl (by kernel_rfl) (by kernel_rfl) (by kernel_rfl) (fun _ _ _ h => h) (Or.inl ⟨by kernel_rfl, ?_⟩) (by assumption) ?_
                    rotate_left
                    · (intro w hSw; (try dsimp only at hSw); go_simp; (try with_reducible rfl))
                    simp only [Act.put, List.getElem_toArray, List.getElem_cons_succ, List.getElem_cons_zero, List.setIfInBounds_toArray, List.set_cons_zero, List.set_cons_succ]
                    refine wpAnyH_take (i := 3) rfl (by kernel_rfl) (by kernel_rfl) (by kernel_rfl) (fun _ _ _ h => h) (yi_move (by kernel_rfl) rfl rfl) (by assumption) ?_
                    simp only [Act.put, List.getElem_toArray, List.getElem_cons_succ, List.getElem_cons_zero, List.setIfInBounds_toArray, List.set_cons_zero, List.set_cons_succ]
                    refine wpAnyH_take (i := 4) rfl (by kernel_rfl) (by kernel_rfl) (by kernel_rfl) (fun _ _ _ h => h) (yi_move (by kernel_rfl) rfl rfl) (by assumption) ?_
                    simp only [Act.put, List.getElem_toArray, List.getElem_cons_succ, List.getElem_cons_zero, List.setIfInBounds_toArray, List.set_cons_zero, List.set_cons_succ]
                    refine wpAnyH_take (i := 5) (v := ?_) rfl (by kernel_rfl) (by kernel_rfl) (by kernel_rfl) (fun _ _ _ h => h) (Or.inl ⟨by kernel_rfl, ?_⟩) (by assumption) ?_
                    rotate_left
                    · (intro w hSw; (try dsimp only at hSw); go_simp; (try with_reducible rfl))
                    simp only [Act.put, List.getElem_toArray, List.getElem_cons_succ, List.getElem_cons_zero, List.setIfInBounds_toArray, List.set_cons_zero, List.set_cons_succ]
                    refine wpAnyH_take (i := 6) rfl (by kernel_rfl) (by kernel_rfl) (by kernel_rfl) (fun _ _ _ h => h) (yi_move (by kernel_rfl) rfl rfl) (by assumption) ?_
                    simp only [Act.put, List.getElem_toArray, List.getElem_cons_succ, List.getElem_cons_zero, List.setIfInBounds_toArray, List.set_cons_zero, List.set_cons_succ]
                    refine wpAnyH_take (i := 7) rfl (by kernel_rfl) (by kernel_rfl) (by kernel_rfl) (fun _ _ _ h => h) (yi_move (by kernel_rfl) rfl rfl) (by assumption) ?_
                    simp only [Act.put, List.getElem_toArray, List.getElem_cons_succ, List.getElem_cons_zero, List.setIfInBounds_toArray, List.set_cons_zero, List.set_cons_succ]
                    refine wpAnyH_take (i := 8) (v := ?_) rfl (by kernel_rfl) (by kernel_rfl) (by kernel_rfl) (fun _ _ _ h => h) (Or.inl ⟨by kernel_rfl, ?_⟩) (by assumption) ?_
                    rotate_left
                    · (intro w hSw; (try dsimp only at hSw); go_simp; (try with_reducible rfl))
                    simp only [Act.put, List.getElem_toArray, List.getElem_cons_succ, List.getElem_cons_zero, List.setIfInBounds_toArray, List.set_cons_zero, List.set_cons_succ]
                    refine wpAnyH_take (i := 9) (v := ?_) rfl (by kernel_rfl) (by kernel_rfl) (by kernel_rfl) (fun _ _ _ h => h) (Or.inl ⟨by kernel_rfl, ?_⟩) (by assumption) ?_
                    rotate_left
                    · (intro w hSw; (try dsimp only at hSw); go_simp; (try with_reducible rfl))
                    simp only [Act.put, List.getElem_toArray, List.getElem_cons_succ, List.getElem_cons_zero, List.setIfInBounds_toArray, List.set_cons_zero, List.set_cons_succ]
                    refine wpAnyH_take (i := 10) rfl (by kernel_rfl) (by kernel_rfl) (by kernel_rfl) (fun _ _ _ h => h) (yi_move (by kernel_rfl) rfl rfl) (by assumption) ?_
                    simp only [Act.put, List.getElem_toArray, List.getElem_cons_succ, List.getElem_cons_zero, List.setIfInBounds_toArray, List.set_cons_zero, List.set_cons_succ]
                    refine wpAnyH_take (i := 11) (v := ?_) rfl (by kernel_rfl) (by kernel_rfl) (by kernel_rfl) (fun _ _ _ h => h) (Or.inl ⟨by kernel_rfl, ?_⟩) (by assumption) ?_
                    rotate_left
                    · (intro w hSw; (try dsimp only at hSw); go_simp; (try with_reducible rfl))
                    simp only [Act.put, List.getElem_toArray, List.getElem_cons_succ, List.getElem_cons_zero, List.setIfInBounds_toArray, List.set_cons_zero, List.set_cons_succ]
                    refine wpAnyH_take (i := 12) (v := ?_) rfl (by kernel_rfl) (by kernel_rfl) (by kernel_rfl) (fun _ _ _ h => h) (Or.inl ⟨by kernel_rfl, ?_⟩) (by assumption) ?_
                    rotate_left
                    · (intro w hSw; (try dsimp only at hSw); go_simp; (try with_reducible rfl))
                    simp only [Act.put, List.getElem_toArray, List.getElem_cons_succ, List.getElem_cons_zero, List.setIfInBounds_toArray, List.set_cons_zero, List.set_cons_succ]
                    refine wpAnyH_take (i := 13) (v := ?_) rfl (by kernel_rfl) (by kernel_rfl) (by kernel_rfl) (fun _ _ _ h => h) (Or.inl ⟨by kernel_rfl, ?_⟩) (by assumption) ?_
                    rotate_left
                    · (intro w hSw; (try dsimp only at hSw); go_simp; (try with_reducible rfl))
                    simp only [Act.put, List.getElem_toArray, List.getElem_cons_succ, List.getElem_cons_zero, List.setIfInBounds_toArray, List.set_cons_zero, List.set_cons_succ]
                    refine wpAnyH_take (i := 14) (v := ?_) rfl (by kernel_rfl) (by kernel_rfl) (by kernel_rfl) (fun _ _ _ h => h) (Or.inl ⟨by kernel_rfl, ?_⟩) (by assumption) ?_
                    rotate_left
                    · (intro w hSw; (try dsimp only at hSw); go_simp; (try with_reducible rfl))
                    simp only [Act.put, List.getElem_toArray, List.getElem_cons_succ, List.getElem_cons_zero, List.setIfInBounds_toArray, List.set_cons_zero, List.set_cons_succ]
                    refine wpAnyH_take (i := 15) (v := .bool false) rfl (by kernel_rfl) (by kernel_rfl) (by kernel_rfl) (fun _ _ _ h => h) (Or.inl ⟨by kernel_rfl, by (intro w hSw; go_simp; (try with_reducible rfl))⟩) (by assumption) ?_
                    simp only [Act.put, List.getElem_toArray, List.getElem_cons_succ, List.getElem_cons_zero, List.setIfInBounds_toArray, List.set_cons_zero, List.set_cons_succ]
                    refine wpAnyH_done (by kernel_rfl) ?_ _
                    refine NoPanic.normal ?_
                    go_wp2_with fail
                    go_roundw
                    case rel => exact ⟨n + 1, b, by omega, by omega, by go_num, rfl, HNX.out, HBx.out.drewN 1⟩
                    case measure => simp [intOf] <;> omega
            · obtain rfl : n = 7 := by omega
              have HR2 := hidI (HR.out.step HBx.out)
              have HO2 : Hid (wr.ownsRow wq.heap.size 3 1 u9 o.length (flG lyI o)) := ownsRow_bl HO.out HBx.out
              have hlen := HSel.out.len
              have hsz2 : wq.heap.size ≤ wr.heap.size := Nat.le_trans hsz HBx.out.size
              clear HBx HR HO hsz hn hn1 hn7
              by_cases hb0 : b = 0
              · subst hb0
                have HS2 := hidI (HSel.out.none HBst.out)
                have hz0 : ((0 : Nat) : Int) = 0 := rfl
                rw [hz0]
                clear hz0
                go_wp2_with fail
                go_roundw
                case rel => exact ⟨k + 1, o, I, by omega, by go_num, HS2.out, HFf.out, HR2.out, HO2.out, hsz2⟩
                case measure => simp [intOf] <;> omega
              · have HS2 := hidI (HSel.out.take hb0 HBst.out)
                have hb7 : b < 7 := by rcases HBst.out with g | g; exact absurd g.1 hb0; exact g.2.1
                have hbp : 0 < (b : Int) := by omega
                have hbi7 : (b : Int) < 7 := by omega
                have hci := HR2.out.cI hb7
                have HLs : Hid (∀ J : Nat → Bool, b < (bL J).length) := fun J => by rw [bL_len]; omega
                clear HSel HBst
                go_wp2_with (first
                  | go_skip
                  | (refine wl_app1X lyI 3 24 (.int .i64 0) 8 undIs infoI3 rfl (by decide) rfl _ _ rfl wq.heap.size o.length o rfl (b : Int) u9 rfl hsz2 HO2.out wr.heap.size rfl rfl (by omega) ?_ _ rfl rfl; intro g7 c7 w7 q1 q2 q3 q4; have HR3 := hidI (HR2.out.grown HG0.out HO2.out q2 hN0 hN1 hN2); have hO3 : w7.ownsRow wq.heap.size 3 1 (.slice (some ⟨g7, 0, none⟩) (o.length + 1) c7) (o ++ [(b : Int)]).length (flG lyI (o ++ [(b : Int)])) := (by rw [List.length_append]; exact q1); have HO3 := hidI hO3; clear hO3; have hsz3 := q2.size; clear HR2 HO2 q1 q2 q3 q4 hci)
                  | (refine wl_setU rfl 4 _ _ rfl (W.heap.size + 1) b (.bool false) rfl rfl rfl infob1 (bL I) (bL (off7 I b)) 55 HR3.out.i (HLs.out _) (by rw [bL_set]; rfl) ?_; intro w8 g1 g2; have HR4 : Hid (RW w0 (W.heap.size + 1) (W.heap.size + 1 + 1) (off7 I b) F0 w8) := HR3.out.setI HG0.out g2 hw0s (by omega) g1; have HO4 := hidI (own_of1 HO3.out g2 hN1); have hsz4 := g2.size; clear HR3 HO3 g1 g2))
                go_roundw
                case rel => exact ⟨k + 1, o ++ [(b : Int)], off7 I b, by omega, by go_num, HS2.out, (fun m hm => HFf.out m (by unfold off7 at hm; split at hm; cases hm; exact hm)), HR4.out, HO4.out, by omega⟩
                case measure => simp [intOf] <;> omega
        · obtain rfl : k = 6 := by omega
          obtain ⟨a9, c9, h9, hr9⟩ := owns_rs lyI HO.out
          subst h9
          have hlen := HSel.out.len
          have hcap := own_capR HO.out
          go_wp2_with fail
          go_ret
          exact ⟨a9, c9, o, rfl, hcap, HSel.out.done, hr9, HB0.out.step HR.out.g.b⟩
end Go.Proofs.YtfghjadhpajmeaaDoor
