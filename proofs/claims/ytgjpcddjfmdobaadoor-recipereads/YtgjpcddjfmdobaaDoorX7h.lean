/- The reference's action with inputs; what it answers. -/
import Derived.Test.YtgjpcddjfmdobaaDoorX7g
namespace Go.Proofs.YtgjpcddjfmdobaaDoor
open Go.RowKit
set_option linter.unusedVariables false

theorem one3 (x code : List UInt8) (a : Option Addr) (n c : Nat) : (#[Value.string (M.bs x), .slice a n c, .string (M.bs code)] : Array Value).all (·.oneCell') = true := by simp [Value.oneCell']
theorem idx_at (b o n c k : Nat) (h : k < n) (W : World) : (Instr.indexAt 22 (.slice (some ⟨b, o, none⟩) n c) (.int .i64 ((k : Nat) : Int))).run Tryd.prog W = .ok (.pointer (some ⟨b, o + k, none⟩)) W := by
  have h1 : ¬ ((k : Int) < 0) := by omega
  have h2 : (k : Int) < (n : Int) := by omega
  have hs : sizeOf 9 = sizeOf 9 := rfl
  simp [Instr.indexAt, run_underlying TA.undS, asIntOf, go_sem, h]
theorem all_take3 (r : List (List UInt8)) (k : Nat) (t : List UInt8) (h : r[k]? = some t) (ha : (r.take k).all RC.isNm = true) (hn : RC.isNm t = true) : (r.take (k + 1)).all RC.isNm = true := by
  rw [List.take_add_one, h]; simp [List.all_append, ha, hn]
set_option maxRecDepth 8000 in
set_option maxHeartbeats 4000000 in
theorem raction_loop (x : List UInt8) (r : List (List UInt8)) (z code : List UInt8) (b off c : Nat) {w W : World} (P : Ending → World → Prop) (h : RB w W x (RC.wFrom :: r) z b off c) (hr : RC.readC z = some code) (hr1 : r ≠ []) (hr4 : r.length ≤ 4)
    (HY : Hid (∀ a' c' w', r.all RC.isNm = true → w'.ownsRow W.heap.size 9 1 (.slice a' r.length c') r.length (r.map encS) → Bl w w' → P (.returned (.tuple #[.agg (acL (x, r, code) a' c').toArray, .bool true])) w'))
    (HN : Hid (∀ (cs : Array Value) w', r.all RC.isNm = false → cs.size = 3 → cs.all (·.oneCell') = true → Bl w w' → P (.returned (.tuple #[.agg cs, .bool false])) w')) :
    Calls Tryd.prog 35 #[.slice (some ⟨b, off, none⟩) (r.length + 1 + 4) c] W P := by
  obtain ⟨hb, h0, h1, h2, h3, hm, hc, hx, hz, hl, hn, nm, HB⟩ := h
  have hA : ∀ o o' p, ((W.alloc o).alloc o').cell? ⟨b, p, none⟩ = W.cell? ⟨b, p, none⟩ := fun o o' p => (((Below.refl _ W).alloc (Nat.le_refl _) o).alloc (by simp) o').cell (p := ⟨b, p, none⟩) hb
  have CI : Hid (∀ W', Calls Tryd.prog 16 #[.string (M.bs x)] W' fun e w' => e = .returned (.bool true) ∧ w' = W') := fun W' => by rw [← nm]; exact rIsName_at x W' (by unfold maxLen; omega)
  have hne0 : ((M.bs RC.wMake).toList == [109, 97, 107, 101]) = true := by rw [bs_eqW]; rfl
  have hne : ((M.bs RC.wBy).toList == [98, 121]) = true := by rw [bs_eqW]; rfl
  have e4 : ¬ ((r.length : Int) + 1 + 4 < 4) := by omega
  have hws : w.heap.size ≤ W.heap.size := Below.size HB
  obtain ⟨fs, hum⟩ := undAc
  have CC : Hid (∀ W', Bl ((W.alloc (.cells zAc 42)).alloc (.cells zAc 42)) W' → Calls Tryd.prog 47 #[.string (M.bs z)] W' fun e w' => e = .returned (.tuple #[.string (M.bs code), .bool true]) ∧ Bl ((W.alloc (.cells zAc 42)).alloc (.cells zAc 42)) w') := fun W' h' => by
    have := rcode_at z h' hz
    rw [hr] at this
    exact this
  have HV0 : Hid (Bl ((W.alloc (.cells zAc 42)).alloc (.cells zAc 42)) ((W.alloc (.cells zAc 42)).alloc (.cells zAc 42))) := Bl.refl _
  have HST : Hid (∀ w2, Bl ((W.alloc (.cells zAc 42)).alloc (.cells zAc 42)) w2 → AX W x code [] (.slice none 0 0) ((w2.setCell ⟨W.heap.size + 1, 0, none⟩ (.string (M.bs x))).setCell ⟨W.heap.size + 1, 2, none⟩ (.string (M.bs code))) ∧ w2.cell? ⟨b, off + 1, none⟩ = some (.string (M.bs x)) ∧ (∀ i t, (RC.wFrom :: r)[i]? = some t → ((w2.setCell ⟨W.heap.size + 1, 0, none⟩ (.string (M.bs x))).setCell ⟨W.heap.size + 1, 2, none⟩ (.string (M.bs code))).cell? ⟨b, off + 2 + i, none⟩ = some (.string (M.bs t))) ∧
      (w2.cell? ⟨W.heap.size + 1, 0, none⟩ = some (.string ⟨#[]⟩) ∧ w2.frozen? ⟨W.heap.size + 1, 0, none⟩ = false) ∧
      ((w2.setCell ⟨W.heap.size + 1, 0, none⟩ (.string (M.bs x))).cell? ⟨W.heap.size + 1, 2, none⟩ = some (.string ⟨#[]⟩) ∧ (w2.setCell ⟨W.heap.size + 1, 0, none⟩ (.string (M.bs x))).frozen? ⟨W.heap.size + 1, 2, none⟩ = false)) := fun w2 h => by
    obtain ⟨a1, a2, a3⟩ := AX.start W x code h
    refine ⟨a1, ?_, fun i t ht => ?_, a2, a3⟩
    · rw [Bl.cell ((v_bl W).step h) hb]; exact h1
    · rw [Bl.cell a1.bl hb]; exact hm i t ht
  have HFN : Hid (∀ U cs, Bl W U → Bl w (U.setRow W.heap.size cs)) := fun U cs h => (HB.step h).setRow hws _
  simp only [List.length_cons] at h2 h3 hc hn
  have hf : ((M.bs RC.wFrom).toList == [102, 114, 111, 109]) = true := by rw [bs_eqW]; rfl
  have hmz : ((r.length : Int) + 1 == 0) = false := by rw [beq_eq_false_iff_ne]; omega
  have hpos : 0 < r.length := List.length_pos_iff.2 hr1
  have c2 : ¬ ((r.length : Int) + 1 < 2) := by omega
  have c3 : ¬ ((5 : Int) < (r.length : Int) + 1) := by omega
  have HRC : Hid (∀ U, Bl W U → ∀ i t, r[i]? = some t → U.cell? ⟨b, off + 2 + (i + 1), none⟩ = some (.string (M.bs t))) := fun U hU i t ht => by
    rw [Bl.cell hU hb]; exact hm (i + 1) t (by simpa using ht)
  have HRL : Hid (∀ (t : List UInt8), t ∈ r → t.length ≤ 100000) := fun t ht => hl t (by simp [ht])
  have HNN : Hid (∀ i t, r[i]? = some t → RC.isNm t = false → r.all RC.isNm = false) := fun i t ht hnn => by
    rw [Bool.eq_false_iff]
    intro ha
    rw [List.all_eq_true] at ha
    have := ha t (List.mem_of_getElem? ht)
    rw [hnn] at this; cases this
  clear hm hl nm HB hr hr1
  unfold zAc at CC HST HV0
  go_enter Tryd.func35, Tryd.ntmps35
  go_wp2_with (first
    | (go_at_call 16; refine (CI.out _).mono ?_; rintro e w' ⟨rfl, hw⟩; rw [hw]; clear hw w' CI)
    | (go_at_call 47; refine (CC.out _ HV0.out).mono ?_; rintro e w2 ⟨rfl, hb2⟩; obtain ⟨AX0, hx2, hM, ⟨q1, q2⟩, ⟨q3, q4⟩⟩ := HST.out _ hb2; have hM0 := hM 0 RC.wFrom rfl; rw [Nat.add_zero] at hM0; have HAX : Hid (AX W x code [] (.slice none 0 0) ((w2.setCell ⟨W.heap.size + 1, 0, none⟩ (.string (M.bs x))).setCell ⟨W.heap.size + 1, 2, none⟩ (.string (M.bs code)))) := AX0; clear hM AX0; clear CC HV0 HST hb2))
  generalize ((w2.setCell ⟨W.heap.size + 1, 0, none⟩ (.string (M.bs x))).setCell ⟨W.heap.size + 1, 2, none⟩ (.string (M.bs code))) = U0 at *
  clear q1 q2 q3 q4 hx2 hM0 h0 h1 h2 h3 hA
  go_loopw [8] (fun u8 wr => ∃ k : Nat, k ≤ r.length ∧ u8 = .int .i64 ((k + 1 : Nat) : Int) ∧ (r.take k).all RC.isNm = true ∧ ∃ v, AX W x code (r.take k) v wr) (fun u8 _ => r.length + 1 - (intOf u8).toNat)
  case atStart => exact ⟨0, Nat.zero_le _, rfl, rfl, _, HAX.out⟩
  case round =>
    obtain ⟨k, hk, rfl, hal, v, hax⟩ := hrel
    clear HAX
    have HAL : Hid ((r.take k).all RC.isNm = true) := hal
    have HA : Hid (AX W x code (r.take k) v wr) := hax
    obtain ⟨va, vc, rfl⟩ := own_shape hax.own
    have htl : (r.take k).length = k := by rw [List.length_take]; omega
    have hszz := hax.sz
    have RN := hax.range
    have HH := hax.res
    rw [htl] at RN
    clear hal hax
    by_cases hlt : k < r.length
    · have hg : r[k]? = some r[k] := List.getElem?_eq_getElem hlt
      obtain ⟨t, ht⟩ : ∃ t, r[k] = t := ⟨_, rfl⟩
      rw [ht] at hg
      have htx := HRL.out t (List.mem_of_getElem? hg)
      have hcell := HRC.out wr HA.out.bl k t hg
      cases hnm : RC.isNm t with
      | false =>
        have CN : Hid (∀ W', Calls Tryd.prog 16 #[.string (M.bs t)] W' fun e w' => e = .returned (.bool false) ∧ w' = W') := fun W' => by rw [← hnm]; exact rIsName_at t W' (by unfold maxLen; omega)
        have HNO : Hid (r.all RC.isNm = false) := HNN.out k t hg hnm
        have HF := HFN.out wr #[.string (M.bs x), .slice va k vc, .string (M.bs code)] HA.out.bl
        clear HAL HA HY hg ht hnm HRC HRL HNN HFN
        go_wp2_with (first
          | (go_at_call 16; refine (CN.out _).mono ?_; rintro e w' ⟨rfl, hw⟩; rw [hw]; clear hw w' CN)
          | (refine wpList_load_mid rfl 42 _ rfl (W.heap.size + 1) 0 rfl _ _ RN hum rfl (by rw [infoAc3]; rfl) ?_; clear RN)
          | (refine wpList_store_row rfl 42 _ _ rfl W.heap.size #[.string (M.bs x), .slice va k vc, .string (M.bs code)] rfl rfl 42 _ HH infoAc3 rfl (one3 _ _ _ _ _) ?_))
        (try simp only [Exit.inBlock, Exit.then])
        exact bodyPost_ret (results2_rowR rfl _ _ _ 42 #[.string (M.bs x), .slice va k vc, .string (M.bs code)] (0, 0) _ rfl (setRow_heap _ _ _ _ _ _ HH) hum rfl infoAc3) rfl (HN.out _ _ HNO.out rfl (one3 _ _ _ _ _) HF)
      | true =>
        have CN : Hid (∀ W', Calls Tryd.prog 16 #[.string (M.bs t)] W' fun e w' => e = .returned (.bool true) ∧ w' = W') := fun W' => by rw [← hnm]; exact rIsName_at t W' (by unfold maxLen; omega)
        have HAL2 : Hid ((r.take (k + 1)).all RC.isNm = true) := all_take3 r k t hg HAL.out hnm
        have HT2 : Hid (r.take (k + 1) = r.take k ++ [t]) := by show _ = _; rw [List.take_add_one, hg]; rfl
        have hb1 : ∀ o, Bl wr (wr.alloc o) := fun o => (Bl.refl wr).alloc o
        have hal1 : ∀ o, (wr.alloc o).cell? ⟨W.heap.size + 1, 1, none⟩ = some (.slice va k vc) := fun o => by
          have h9 := (HA.out.step (hb1 o)).range 1 _ rfl
          rw [htl] at h9
          exact h9
        have hal0 : wr.cell? ⟨W.heap.size + 1, 1, none⟩ = some (.slice va k vc) := RN 1 _ rfl
        have hal2 : ∀ o, (wr.alloc o).cell? ⟨b, off + 2 + (k + 1), none⟩ = some (.string (M.bs t)) := fun o => HRC.out _ (HA.out.step (hb1 o)).bl k t hg
        have hix : ∀ W' : World, (Instr.indexAt 22 (.slice (some ⟨b, off + 2, none⟩) (r.length + 1) (c - 2)) (.int .i64 ((k : Int) + 1))).run Tryd.prog W' = .ok (.pointer (some ⟨b, off + 2 + (k + 1), none⟩)) W' := fun W' => idx_at b (off + 2) (r.length + 1) (c - 2) (k + 1) (by omega) W'
        have OWN : Hid (∀ o, (wr.drew.alloc o).ownsRow (W.heap.size + 2) 9 1 (.slice va k vc) k ((r.take k).map encS)) := fun o => by
          have h9 := (HA.out.step (((Bl.refl wr).drewN 1).alloc o)).own
          rw [htl] at h9
          exact h9
        have NEWS : Hid (∀ (j : Nat) (u : Value), [encS t][j]? = some u → (wr.drew.alloc (.cells #[.string (M.bs t)] 9)).cell? ((⟨wr.heap.size, 0, none⟩ : Addr).add j) = some u) := fun j u hu => World.news_of_block (heap_alloc_new wr.drew _) j u hu
        obtain ⟨i0, hi, hz0, hz1, hz2⟩ := TA.info_partsT (show (Tryd.prog.info? 9).map (fun i => (i.zero, i.size, i.bytes)) = some (some (.string ⟨#[]⟩), 1, 16) by kernel_rfl)
        have FIN : Hid (∀ o w8 g cap', (wr.drew.alloc o).grownBy w8 (Value.slice va k vc).ownBlock → w8.ownsRow (W.heap.size + 2) 9 1 (.slice (some ⟨g, 0, none⟩) (k + 1) cap') (k + 1) ((r.take k).map encS ++ [encS t]) → AX W x code (r.take (k + 1)) (.slice (some ⟨g, 0, none⟩) (k + 1) cap') (w8.setCell ⟨W.heap.size + 1, 1, none⟩ (.slice (some ⟨g, 0, none⟩) (k + 1) cap')) ∧ w8.cell? ⟨W.heap.size + 1, 1, none⟩ = some (.slice va k vc) ∧ w8.frozen? ⟨W.heap.size + 1, 1, none⟩ = false) := fun o w8 g cap' hgr ho => by
          have h9 := HA.out.app (((Bl.refl wr).drewN 1).alloc o) t (.slice (some ⟨g, 0, none⟩) (k + 1) cap') (by rw [htl]; exact ho) (by rw [htl]; exact hgr)
          rw [HT2.out]
          rw [htl] at h9
          exact h9
        clear HAL HA HN HY hg ht hnm HRC HRL HNN HFN RN HH hb1 htl
        go_wp2_with (go_at_call 16; refine (CN.out _).mono ?_; rintro e w' ⟨rfl, hw⟩; rw [hw]; clear hw w' CN)
        go_region_law (refine step_append_lies _ (by rfl) _ _ 22 (by rfl) (W.heap.size + 2) 9 i0 (.string ⟨#[]⟩) 1 16 TA.undS hi hz0 hz1 hz2 rfl (by decide) _ k _ (by rfl) (OWN.out _) ⟨wr.heap.size, 0, none⟩ 1 1 [encS t] (by rfl) rfl NEWS.out (fun u hu => by simp at hu; subst hu; rfl) (by decide) (by unfold maxLen; omega) (by omega) (by simp; omega) (wr.heap.size + 1) (by simp) ?_; intro g cap' w8 hown8 hgrow8 hat8 hlt8; obtain ⟨HD, c3, c4⟩ := FIN.out _ _ _ _ hgrow8 hown8)
        all_goals
          have HD2 : Hid (AX W x code (r.take (k + 1)) (.slice (some ⟨g, 0, none⟩) (k + 1) cap') (w8.setCell ⟨W.heap.size + 1, 1, none⟩ (.slice (some ⟨g, 0, none⟩) (k + 1) cap'))) := HD
          clear HD OWN NEWS FIN hgrow8 hown8 hat8
          go_wp2_with fail
          go_roundw
          case rel => exact ⟨k + 1, by omega, by go_num, HAL2.out, _, HD2.out⟩
          case measure => first | (simp [intOf]; done) | (simp [intOf]; omega)
    · obtain rfl : k = r.length := by omega
      have HALL : Hid (r.all RC.isNm = true) := by show _ = _; rw [← List.take_length (l := r)]; exact HAL.out
      have HOWN : Hid ((wr.setRow W.heap.size #[.string (M.bs x), .slice va r.length vc, .string (M.bs code)]).ownsRow W.heap.size 9 1 (.slice va r.length vc) r.length (r.map encS)) := by
        have h9 := HA.out.own
        rw [List.take_length] at h9
        exact ownsRow_base (ownsRow_set h9 (by omega) _) (by omega)
      have HF := HFN.out wr #[.string (M.bs x), .slice va r.length vc, .string (M.bs code)] HA.out.bl
      clear HAL HA HN HRC HRL HNN HFN htl
      go_wp2_with (first
          | (refine wpList_load_mid rfl 42 _ rfl (W.heap.size + 1) 0 rfl _ _ RN hum rfl (by rw [infoAc3]; rfl) ?_; clear RN)
          | (refine wpList_store_row rfl 42 _ _ rfl W.heap.size #[.string (M.bs x), .slice va r.length vc, .string (M.bs code)] rfl rfl 42 _ HH infoAc3 rfl (one3 _ _ _ _ _) ?_))
      (try simp only [Exit.inBlock, Exit.then])
      exact bodyPost_ret (results2_rowR rfl _ _ _ 42 #[.string (M.bs x), .slice va r.length vc, .string (M.bs code)] (0, 0) _ rfl (setRow_heap _ _ _ _ _ _ HH) hum rfl infoAc3) rfl (by have h9 := HY.out _ _ _ HALL.out HOWN.out HF; unfold acL at h9; exact h9)

/-- the action that a line's words tell -/
def rA (l : List (List UInt8)) : Option RC.Ac := match l with
  | [] => none
  | k :: r => if k = RC.wMake then RC.readA r else none
theorem raction_x (l : List (List UInt8)) (b off c : Nat) {w W : World} (P : Ending → World → Prop) (HB : Bl w W) (hv : ∀ i t, l[i]? = some t → b < W.heap.size ∧ W.cell? ⟨b, off + i, none⟩ = some (.string (M.bs t))) (hc : l.length ≤ c) (hl : ∀ t ∈ l, t.length ≤ 100000) (hn : l.length ≤ 90000)
    (HY : ∀ t a' c' w', rA l = some t → w'.ownsRow W.heap.size 9 1 (.slice a' t.2.1.length c') t.2.1.length (t.2.1.map encS) → Bl w w' → P (.returned (.tuple #[.agg (acL t a' c').toArray, .bool true])) w')
    (HN : ∀ (cs : Array Value) w', rA l = none → cs.size = 3 → cs.all (·.oneCell') = true → Bl w w' → P (.returned (.tuple #[.agg cs, .bool false])) w') :
    Calls Tryd.prog 35 #[.slice (some ⟨b, off, none⟩) l.length c] W P := by
  have noM : ∀ (Q : Calls Tryd.prog 35 #[.slice (some ⟨b, off, none⟩) l.length c] W (RNo w) ), rA l = none → Calls Tryd.prog 35 #[.slice (some ⟨b, off, none⟩) l.length c] W P := fun Q h0 => by
    refine Q.mono ?_
    rintro e w' ⟨cs, h1, h2, rfl, h3⟩
    exact HN cs w' h0 h1 h2 h3
  by_cases h4 : l.length < 4
  · refine noM (raction_short l _ c HB h4) ?_
    cases l with
    | nil => rfl
    | cons k r =>
      simp only [List.length_cons] at h4
      show (if k = RC.wMake then RC.readA r else none) = none
      rw [RC.readA_short r (by omega)]
      split <;> rfl
  cases l with
  | nil => simp at h4
  | cons k r =>
    obtain ⟨x, m, y, z, rfl⟩ := RC.three r (by simp only [List.length_cons] at h4; omega)
    have hlen : (k :: x :: (m ++ [y, z])).length = m.length + 4 := by simp
    have e : rA (k :: x :: (m ++ [y, z])) = if k = RC.wMake then RC.readA (x :: (m ++ [y, z])) else none := rfl
    rw [RC.readA_three] at e
    have hx := hl x (by simp)
    have hz := hl z (by simp)
    simp only [hlen] at hc hn noM ⊢
    by_cases hbad : k ≠ RC.wMake ∨ RC.isNm x = false ∨ y ≠ RC.wBy
    · refine noM (raction_bad k x m y z b off c HB hv hc hx (by omega) hbad) ?_
      rw [e]
      rcases hbad with h | h | h
      · rw [if_neg h]
      · split
        · rw [if_pos (Or.inr h)]
        · rfl
      · split
        · rw [if_pos (Or.inl h)]
        · rfl
    · have hk : k = RC.wMake := Classical.byContradiction fun h => hbad (Or.inl h)
      have hnm : RC.isNm x = true := by
        cases h : RC.isNm x with
        | true => rfl
        | false => exact absurd (Or.inr (Or.inl h)) hbad
      have hy : y = RC.wBy := Classical.byContradiction fun h => hbad (Or.inr (Or.inr h))
      subst hk
      subst hy
      rw [if_pos rfl, if_neg (by simp [hnm])] at e
      have hrb : RB w W x m z b off c := by
        refine ⟨(hv 0 _ rfl).1, ?_, (hv 1 x rfl).2, ?_, ?_, fun i t ht => ?_, hc, hx, hz, fun t ht => hl t (by simp [ht]), by omega, hnm, HB⟩
        · have := (hv 0 _ rfl).2; rwa [Nat.add_zero] at this
        · exact (hv (m.length + 2) _ (by rw [List.getElem?_cons_succ, List.getElem?_cons_succ, List.getElem?_append_right (Nat.le_refl _)]; simp)).2
        · exact (hv (m.length + 3) _ (by rw [List.getElem?_cons_succ, List.getElem?_cons_succ, List.getElem?_append_right (by omega)]; simp)).2
        · have hlt := (List.getElem?_eq_some_iff.1 ht).1
          have := (hv (i + 2) t (by rw [List.getElem?_cons_succ, List.getElem?_cons_succ, List.getElem?_append_left hlt]; exact ht)).2
          rw [show off + 2 + i = off + (i + 2) by omega]; exact this
      cases hr : RC.readC z with
      | none =>
        refine noM (raction_code x m z b off c hrb hr) ?_
        rw [e, hr]
        cases RC.readIns m <;> rfl
      | some code =>
        rw [hr] at e
        cases m with
        | nil =>
          have e2 : rA (RC.wMake :: x :: ([] ++ [RC.wBy, z])) = some (x, [], code) := e
          refine (raction_none x z code b off c hrb hr).mono ?_
          rintro e' w' ⟨a', c', rfl, h1, h2⟩
          exact HY (x, [], code) a' c' w' e2 h1 h2
        | cons f r =>
          rw [readIns_cons] at e
          by_cases hq : f ≠ RC.wFrom ∨ r = [] ∨ 4 < r.length
          · refine noM (raction_from x f r z code b off c hrb hr hq) ?_
            rw [e, if_neg (fun ⟨q1, q2, q3, _⟩ => by rcases hq with h | h | h; exact h q1; exact q2 h; omega)]
          · have hf : f = RC.wFrom := Classical.byContradiction fun h => hq (Or.inl h)
            subst hf
            have hr1 : r ≠ [] := fun h => hq (Or.inr (Or.inl h))
            have hr4 : r.length ≤ 4 := Nat.le_of_not_lt fun h => hq (Or.inr (Or.inr h))
            refine raction_loop x r z code b off c P hrb hr hr1 hr4 (fun a' c' w' ha h1 h2 => ?_) (fun cs w' ha h1 h2 h3 => ?_)
            · exact HY (x, r, code) a' c' w' (by rw [e, if_pos ⟨rfl, hr1, hr4, ha⟩]) h1 h2
            · exact HN cs w' (by rw [e, if_neg (fun ⟨_, _, _, q4⟩ => by rw [ha] at q4; cases q4)]) h1 h2 h3
end Go.Proofs.YtgjpcddjfmdobaaDoor
