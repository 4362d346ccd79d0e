/- HedgeTells: two lists have one range just if they have the same records there. -/
import Derived.Test.YtfbjakhanjbaeaaDoorHrw
namespace Go.Proofs.YtfbjakhanjbaeaaDoor
open Go.RowKit Go.Maps Go.Sort Go.Shelf Go.Lib
set_option linter.unusedVariables false
set_option linter.unusedSimpArgs false
attribute [local go_sem ↓] zRgW

namespace HG
theorem srt_fix (l : List R) (h : Rise l) : srt l = l := by
  refine rise_uniq _ _ (srt_rise l) h fun z => ?_
  rw [srt_mem]
  constructor
  · intro h1; exact List.mem_of_find?_eq_some h1
  · intro hz
    cases hf : l.find? (fun u => decide (u.k = z.k)) with
    | none => have := List.find?_eq_none.1 hf z hz; simp at this
    | some y =>
      have hy : y.k = z.k := by simpa using List.find?_some hf
      have hm := List.mem_of_find?_eq_some hf
      rcases List.mem_iff_getElem.1 hm with ⟨i, hi, e1⟩
      rcases List.mem_iff_getElem.1 hz with ⟨j, hj, e2⟩
      rcases Nat.lt_trichotomy i j with h1 | h1 | h1
      · have := List.pairwise_iff_getElem.1 h i j hi hj h1
        rw [e1, e2] at this; exact absurd hy (lt_ne this)
      · subst h1; rw [← e1, ← e2]
      · have := List.pairwise_iff_getElem.1 h j i hj hi h1
        rw [e1, e2] at this; exact absurd hy.symm (lt_ne this)
theorem srt_rev (l : List R) : srt (srt l).reverse = srt l := by
  refine rise_uniq _ _ (srt_rise _) (srt_rise l) fun z => ?_
  constructor
  · intro h
    have := srt_sub _ _ h
    simpa using this
  · intro hz
    rw [srt_mem]
    cases hf : (srt l).reverse.find? (fun u => decide (u.k = z.k)) with
    | none => have := List.find?_eq_none.1 hf z (by simpa using hz); simp at this
    | some y =>
      have hy : y.k = z.k := by simpa using List.find?_some hf
      have hm : y ∈ srt l := by simpa using List.mem_of_find?_eq_some hf
      have h := srt_rise l
      rcases List.mem_iff_getElem.1 hm with ⟨i, hi, e1⟩
      rcases List.mem_iff_getElem.1 hz with ⟨j, hj, e2⟩
      rcases Nat.lt_trichotomy i j with h1 | h1 | h1
      · have := List.pairwise_iff_getElem.1 h i j hi hj h1
        rw [e1, e2] at this; exact absurd hy (lt_ne this)
      · subst h1; rw [← e1, ← e2]
      · have := List.pairwise_iff_getElem.1 h j i hj hi h1
        rw [e1, e2] at this; exact absurd hy.symm (lt_ne this)
theorem items_srt (r : G) (l m : List R) (h : srt l = srt m) : items r l = items r m := by
  unfold items
  rw [srt_filter l (fun k => inn r k), srt_filter m (fun k => inn r k), h]
theorem rng_of (d p : Int) (l m : List R) (h : items (g0 d p) l = items (g0 d p) m) : rng d p l = rng d p m := by
  unfold rng; simp only [h]
end HG
theorem wl_eqlT {P : Program} {ops : Array Oper} {rest : List Oper} {o : Oper} {a : Act} {w : World} {Q : Exit → Act → World → Prop} (hw : Region.wanted o (yielded ops a.tmps) = true) (t : TypeId) (x y : Operand) (q : TypeId) (ho : o.op = .binOp .eql t x y q) (xs ys : Array Value) (hx : a.eval x = .agg xs) (hy : a.eval y = .agg ys) (hm : P.eqGuardType P.depth t = false) (b : Bool) (he : ∀ w, (Op.equalIn 10000 t (.agg xs) (.agg ys)).run P w = .ok b w)
    (h : wpList P ops Q rest (a.put o.dst (.bool b)) w) : wpList P ops Q (o :: rest) a w :=
  wpList_step fun _ hK => by
    rw [if_pos hw]
    have e : (execOp a.eval o).run P w = .ok (.value (.bool b)) w := by
      unfold execOp; simp only [ho, hx, hy, Sem.run_bind, run_eqGuard_agg (hm := hm), run_eql_struct, he, Result.andThen_ok, Sem.run_pure]
    unfold Oper.wp
    rw [e]
    exact hK _ _ h
theorem gERg : Tryd.prog.eqGuardType Tryd.prog.depth 26 = false := by kernel_rfl
theorem gEDg : Tryd.prog.eqGuardType Tryd.prog.depth 24 = false := by kernel_rfl
theorem bs_eq9 (a b : List UInt8) : ((M.bs a).toList == (M.bs b).toList) = decide (a = b) := by
  rw [Lib.toList_data, Lib.toList_data, M.bs_toList, M.bs_toList]
  by_cases h : a = b
  · subst h; simp
  · simp [h]

set_option maxHeartbeats 2000000 in
set_option maxRecDepth 8000 in
theorem te_la (a b : List HG.R) (va vb : Value) (r : HG.G) (w : World) (hG : GW w) (hva : SL w va a) (hvb : SL w vb b) (ha : 80 < a.length) :
    Calls Tryd.prog 5 #[va, vb, .agg (fG r).toArray] w fun e w' => e = .returned (.bool true) ∧ Bl w w' := by
  have hva0 := hva
  have hvb0 := hvb
  obtain ⟨aa, ca, rfl, _⟩ := hva
  obtain ⟨ab, cb, rfl, _⟩ := hvb
  obtain ⟨W2, hW2⟩ : ∃ W2, W2 = w.alloc (.cells (fG r).toArray 26) := ⟨_, rfl⟩
  have hB2 : Bl w W2 := by rw [hW2]; exact (Bl.refl w).alloc _
  have h0 : W2.heap[w.heap.size]? = some (.cells (fG r).toArray 26 (0, 0)) := by rw [hW2]; exact heap_alloc_new _ _
  have HBX : Hid (∀ U, Bl W2 U → U.rangeAt w.heap.size 0 (fG r) ∧ U.cell? ⟨w.heap.size, 0, none⟩ = some (.int .i64 r.d) ∧ U.cell? ⟨w.heap.size, 1, none⟩ = some (.int .i64 r.p)) := fun U h => by
    have k0 := Bl.heap h h0
    exact ⟨range_of k0, cell_of_row _ _ 0 _ _ _ k0, cell_of_row _ _ 1 _ _ _ k0⟩
  have CA := hidI (fun U (h : Bl W2 U) => awake_15 U (hG.below (bl_tr hB2 h) hG.z))
  have CGd := hidI (fun U => Good_gn r U)
  have HB2 := hidI hB2
  have HW2 := hidI hW2
  have HIG := hidI (one_infoG r)
  have hsz : (fG r).toArray.size = 35 := by simp [fG_len]
  obtain ⟨gs, huG0⟩ := undRg
  have huG := hidI huG0
  clear huG0
  obtain ⟨na, hna⟩ : ∃ na, na = a.length := ⟨_, rfl⟩
  obtain ⟨nb, hnb⟩ : ∃ nb, nb = b.length := ⟨_, rfl⟩
  rw [← hna, ← hnb]
  have hz1 : (na : Int) > 80 := by omega
  clear hG hva0 hvb0 hB2 h0 hW2 hna hnb
  generalize fG r = FG at *
  go_enter Tryd.func5, Tryd.ntmps5
  go_wp2_with (first
    | go_skip
    | (go_at_call 8; rw [← HW2.out]; refine (CA.out _ (Bl.refl _)).mono ?_; clear CA; rintro e w1 ⟨rfl, b1⟩; have HC1 := hidI b1; clear b1)
    | (refine wl_midG (by rfl) 26 _ rfl w.heap.size 0 rfl FG _ (HBX.out _ HC1.out).1 huG.out rfl HIG.out ?_)
    | (go_at_call 19; refine (CGd.out _).mono ?_; clear CGd; rintro e w2 ⟨rfl, g2⟩; have HC2 := hidI (HC1.out.step (gn_bl g2)); clear HC1 g2))
  go_ret
  exact ⟨rfl, HB2.out.step HC1.out⟩
set_option maxHeartbeats 2000000 in
set_option maxRecDepth 8000 in
theorem te_lb (a b : List HG.R) (va vb : Value) (r : HG.G) (w : World) (hG : GW w) (hva : SL w va a) (hvb : SL w vb b) (ha : a.length ≤ 80) (hb : 80 < b.length) :
    Calls Tryd.prog 5 #[va, vb, .agg (fG r).toArray] w fun e w' => e = .returned (.bool true) ∧ Bl w w' := by
  have hva0 := hva
  have hvb0 := hvb
  obtain ⟨aa, ca, rfl, _⟩ := hva
  obtain ⟨ab, cb, rfl, _⟩ := hvb
  obtain ⟨W2, hW2⟩ : ∃ W2, W2 = w.alloc (.cells (fG r).toArray 26) := ⟨_, rfl⟩
  have hB2 : Bl w W2 := by rw [hW2]; exact (Bl.refl w).alloc _
  have h0 : W2.heap[w.heap.size]? = some (.cells (fG r).toArray 26 (0, 0)) := by rw [hW2]; exact heap_alloc_new _ _
  have HBX : Hid (∀ U, Bl W2 U → U.rangeAt w.heap.size 0 (fG r) ∧ U.cell? ⟨w.heap.size, 0, none⟩ = some (.int .i64 r.d) ∧ U.cell? ⟨w.heap.size, 1, none⟩ = some (.int .i64 r.p)) := fun U h => by
    have k0 := Bl.heap h h0
    exact ⟨range_of k0, cell_of_row _ _ 0 _ _ _ k0, cell_of_row _ _ 1 _ _ _ k0⟩
  have CA := hidI (fun U (h : Bl W2 U) => awake_15 U (hG.below (bl_tr hB2 h) hG.z))
  have CGd := hidI (fun U => Good_gn r U)
  have HB2 := hidI hB2
  have HW2 := hidI hW2
  have HIG := hidI (one_infoG r)
  have hsz : (fG r).toArray.size = 35 := by simp [fG_len]
  obtain ⟨gs, huG0⟩ := undRg
  have huG := hidI huG0
  clear huG0
  obtain ⟨na, hna⟩ : ∃ na, na = a.length := ⟨_, rfl⟩
  obtain ⟨nb, hnb⟩ : ∃ nb, nb = b.length := ⟨_, rfl⟩
  rw [← hna, ← hnb]
  have hz1 : ¬ (na : Int) > 80 := by omega
  have hd1 : decide ((na : Int) > 80) = false := decide_eq_false hz1
  have hz2 : (nb : Int) > 80 := by omega
  clear hG hva0 hvb0 hB2 h0 hW2 hna hnb
  generalize fG r = FG at *
  go_enter Tryd.func5, Tryd.ntmps5
  go_wp2_with (first
    | go_skip
    | (go_at_call 8; rw [← HW2.out]; refine (CA.out _ (Bl.refl _)).mono ?_; clear CA; rintro e w1 ⟨rfl, b1⟩; have HC1 := hidI b1; clear b1)
    | (refine wl_midG (by rfl) 26 _ rfl w.heap.size 0 rfl FG _ (HBX.out _ HC1.out).1 huG.out rfl HIG.out ?_)
    | (go_at_call 19; refine (CGd.out _).mono ?_; clear CGd; rintro e w2 ⟨rfl, g2⟩; have HC2 := hidI (HC1.out.step (gn_bl g2)); clear HC1 g2))
  go_ret
  exact ⟨rfl, HB2.out.step HC1.out⟩
set_option maxHeartbeats 2000000 in
set_option maxRecDepth 8000 in
theorem te_bad (a b : List HG.R) (va vb : Value) (r : HG.G) (w : World) (hG : GW w) (hva : SL w va a) (hvb : SL w vb b) (ha : a.length ≤ 80) (hb : b.length ≤ 80) (hg : HG.good r = false) :
    Calls Tryd.prog 5 #[va, vb, .agg (fG r).toArray] w fun e w' => e = .returned (.bool true) ∧ Bl w w' := by
  have hva0 := hva
  have hvb0 := hvb
  obtain ⟨aa, ca, rfl, _⟩ := hva
  obtain ⟨ab, cb, rfl, _⟩ := hvb
  obtain ⟨W2, hW2⟩ : ∃ W2, W2 = w.alloc (.cells (fG r).toArray 26) := ⟨_, rfl⟩
  have hB2 : Bl w W2 := by rw [hW2]; exact (Bl.refl w).alloc _
  have h0 : W2.heap[w.heap.size]? = some (.cells (fG r).toArray 26 (0, 0)) := by rw [hW2]; exact heap_alloc_new _ _
  have HBX : Hid (∀ U, Bl W2 U → U.rangeAt w.heap.size 0 (fG r) ∧ U.cell? ⟨w.heap.size, 0, none⟩ = some (.int .i64 r.d) ∧ U.cell? ⟨w.heap.size, 1, none⟩ = some (.int .i64 r.p)) := fun U h => by
    have k0 := Bl.heap h h0
    exact ⟨range_of k0, cell_of_row _ _ 0 _ _ _ k0, cell_of_row _ _ 1 _ _ _ k0⟩
  have CA := hidI (fun U (h : Bl W2 U) => awake_15 U (hG.below (bl_tr hB2 h) hG.z))
  have CGd := hidI (fun U => Good_gn r U)
  have HB2 := hidI hB2
  have HW2 := hidI hW2
  have HIG := hidI (one_infoG r)
  have hsz : (fG r).toArray.size = 35 := by simp [fG_len]
  obtain ⟨gs, huG0⟩ := undRg
  have huG := hidI huG0
  clear huG0
  obtain ⟨na, hna⟩ : ∃ na, na = a.length := ⟨_, rfl⟩
  obtain ⟨nb, hnb⟩ : ∃ nb, nb = b.length := ⟨_, rfl⟩
  rw [← hna, ← hnb]
  have hz1 : ¬ (na : Int) > 80 := by omega
  have hd1 : decide ((na : Int) > 80) = false := decide_eq_false hz1
  have hz2 : ¬ (nb : Int) > 80 := by omega
  have hd2 : decide ((nb : Int) > 80) = false := decide_eq_false hz2
  rw [hg] at CGd
  clear hG hva0 hvb0 hB2 h0 hW2 hna hnb hg
  generalize fG r = FG at *
  go_enter Tryd.func5, Tryd.ntmps5
  go_wp2_with (first
    | go_skip
    | (go_at_call 8; rw [← HW2.out]; refine (CA.out _ (Bl.refl _)).mono ?_; clear CA; rintro e w1 ⟨rfl, b1⟩; have HC1 := hidI b1; clear b1)
    | (refine wl_midG (by rfl) 26 _ rfl w.heap.size 0 rfl FG _ (HBX.out _ HC1.out).1 huG.out rfl HIG.out ?_)
    | (go_at_call 19; refine (CGd.out _).mono ?_; clear CGd; rintro e w2 ⟨rfl, g2⟩; have HC2 := hidI (HC1.out.step (gn_bl g2)); clear HC1 g2))
  go_ret
  exact ⟨rfl, HB2.out.step HC2.out⟩
set_option maxHeartbeats 8000000 in
set_option maxRecDepth 8000 in
theorem te_main (a b : List HG.R) (va vb : Value) (r : HG.G) (w : World) (hG : GW w) (hva : SL w va a) (hvb : SL w vb b) (ha : a.length ≤ 80) (hb : b.length ≤ 80) (hg : HG.good r = true) :
    Calls Tryd.prog 5 #[va, vb, .agg (fG r).toArray] w fun e w' => e = .returned (.bool true) ∧ Bl w w' := by
  have hva0 := hva
  have hvb0 := hvb
  obtain ⟨aa, ca, rfl, _⟩ := hva
  obtain ⟨ab, cb, rfl, _⟩ := hvb
  obtain ⟨W2, hW2⟩ : ∃ W2, W2 = w.alloc (.cells (fG r).toArray 26) := ⟨_, rfl⟩
  have hB2 : Bl w W2 := by rw [hW2]; exact (Bl.refl w).alloc _
  have h0 : W2.heap[w.heap.size]? = some (.cells (fG r).toArray 26 (0, 0)) := by rw [hW2]; exact heap_alloc_new _ _
  have HBX : Hid (∀ U, Bl W2 U → U.rangeAt w.heap.size 0 (fG r) ∧ U.cell? ⟨w.heap.size, 0, none⟩ = some (.int .i64 r.d) ∧ U.cell? ⟨w.heap.size, 1, none⟩ = some (.int .i64 r.p)) := fun U h => by
    have k0 := Bl.heap h h0
    exact ⟨range_of k0, cell_of_row _ _ 0 _ _ _ k0, cell_of_row _ _ 1 _ _ _ k0⟩
  have CA := hidI (fun U (h : Bl W2 U) => awake_15 U (hG.below (bl_tr hB2 h) hG.z))
  have CGd := hidI (fun U => Good_gn r U)
  have HB2 := hidI hB2
  have HW2 := hidI hW2
  have HIG := hidI (one_infoG r)
  have hsz : (fG r).toArray.size = 35 := by simp [fG_len]
  obtain ⟨gs, huG0⟩ := undRg
  have huG := hidI huG0
  clear huG0
  obtain ⟨na, hna⟩ : ∃ na, na = a.length := ⟨_, rfl⟩
  obtain ⟨nb, hnb⟩ : ∃ nb, nb = b.length := ⟨_, rfl⟩
  have hpl : HG.pl r.d r.p = true := by unfold HG.good at hg; rw [Bool.and_eq_true] at hg; exact hg.1
  have hia : HG.items r a = HG.items (HG.g0 r.d r.p) a := HG.items_eq r a (HG.good_n hg)
  have hib : HG.items r b = HG.items (HG.g0 r.d r.p) b := HG.items_eq r b (HG.good_n hg)
  obtain ⟨XL, hXL⟩ : ∃ XL, XL = fG (HG.rng r.d r.p a) := ⟨_, rfl⟩
  obtain ⟨YL, hYL⟩ : ∃ YL, YL = fG (HG.rng r.d r.p b) := ⟨_, rfl⟩
  obtain ⟨IA, hIA⟩ : ∃ IA, IA = HG.items r a := ⟨_, rfl⟩
  obtain ⟨IB, hIB⟩ : ∃ IB, IB = HG.items r b := ⟨_, rfl⟩
  obtain ⟨q, hq⟩ : ∃ q, q = eqRs IA IB := ⟨_, rfl⟩
  obtain ⟨TA, hTA⟩ : ∃ TA, TA = M.rowB (IA.map HG.tx) := ⟨_, rfl⟩
  obtain ⟨TB, hTB⟩ : ∃ TB, TB = M.rowB (IB.map HG.tx) := ⟨_, rfl⟩
  have hal : IA.length ≤ 80 := by rw [hIA]; exact Nat.le_trans (HG.items_len r a) ha
  have hbl : IB.length ≤ 80 := by rw [hIB]; exact Nat.le_trans (HG.items_len r b) hb
  have hsa : (HG.rng r.d r.p a).s = S.sha TA := by rw [hTA, hIA, hia]; rfl
  have hsb : (HG.rng r.d r.p b).s = S.sha TB := by rw [hTB, hIB, hib]; rfl
  have COf : Hid (∀ (l : List HG.R) v U, l.length ≤ 80 → SL U v l → Bl W2 U → Calls Tryd.prog 9 #[.int .i64 r.d, .int .i64 r.p, v] U fun e w' => e = .returned (.tuple #[.agg (fG (HG.rng r.d r.p l)).toArray, .int .i64 0]) ∧ Bl U w') := fun l v U hl hs h => by
    have := Of_x r.d r.p l v U (hG.below (bl_tr hB2 h) hG.z) hs (by omega)
    unfold HG.ofG HG.ofE at this
    rw [hpl] at this
    exact this
  have COa : Hid (∀ U, Bl W2 U → Calls Tryd.prog 9 #[.int .i64 r.d, .int .i64 r.p, .slice aa a.length ca] U fun e w' => e = .returned (.tuple #[.agg XL.toArray, .int .i64 0]) ∧ Bl U w') := fun U h => by rw [hXL]; exact COf.out a _ U ha (hva0.bl (bl_tr hB2 h)) h
  have COb : Hid (∀ U, Bl W2 U → Calls Tryd.prog 9 #[.int .i64 r.d, .int .i64 r.p, .slice ab b.length cb] U fun e w' => e = .returned (.tuple #[.agg YL.toArray, .int .i64 0]) ∧ Bl U w') := fun U h => by rw [hYL]; exact COf.out b _ U hb (hvb0.bl (bl_tr hB2 h)) h
  have COz : Hid (∀ v U, SL U v (HG.srt a).reverse → Bl W2 U → Calls Tryd.prog 9 #[.int .i64 r.d, .int .i64 r.p, v] U fun e w' => e = .returned (.tuple #[.agg XL.toArray, .int .i64 0]) ∧ Bl U w') := fun v U hs h => by
    have := COf.out (HG.srt a).reverse v U (by rw [List.length_reverse]; exact Nat.le_trans (HG.srt_len a) ha) hs h
    rw [HG.rng_of r.d r.p (HG.srt a).reverse a (HG.items_srt _ _ _ (HG.srt_rev a))] at this
    rw [hXL]; exact this
  have CIa : Hid (∀ U, Bl W2 U → Calls Tryd.prog 15 #[.agg (fG r).toArray, .slice aa a.length ca] U fun e w' => ∃ v', e = .returned v' ∧ SL w' v' IA ∧ Bl U w') := fun U h => by
    refine Calls.mono (Items_x r a _ U (hva0.bl (bl_tr hB2 h)) (by omega)) ?_
    rintro e w' ⟨v', rfl, o, k⟩
    exact ⟨v', rfl, by rw [hIA]; exact sl_own o, k⟩
  have CIb : Hid (∀ U, Bl W2 U → Calls Tryd.prog 15 #[.agg (fG r).toArray, .slice ab b.length cb] U fun e w' => ∃ v', e = .returned v' ∧ SL w' v' IB ∧ Bl U w') := fun U h => by
    refine Calls.mono (Items_x r b _ U (hvb0.bl (bl_tr hB2 h)) (by omega)) ?_
    rintro e w' ⟨v', rfl, o, k⟩
    exact ⟨v', rfl, by rw [hIB]; exact sl_own o, k⟩
  have CRc : Hid (∀ U u v, SL U u IA → SL U v IB → Calls Tryd.prog 14 #[u, v] U fun e w' => e = .returned (.bool q) ∧ Bl U w') := fun U u v h1 h2 => by rw [hq]; exact Records_x IA IB u v U h1 h2 (by omega)
  have CRa : Hid (∀ U v, SL U v IA → Calls Tryd.prog 23 #[v] U fun e w' => e = .returned (.string (M.bs TA)) ∧ Bl U w') := fun U v h => by rw [hTA]; exact row_x IA v U h (by omega)
  have CRb : Hid (∀ U v, SL U v IB → Calls Tryd.prog 23 #[v] U fun e w' => e = .returned (.string (M.bs TB)) ∧ Bl U w') := fun U v h => by rw [hTB]; exact row_x IB v U h (by omega)
  have hta : TA.length ≤ 100000 := by rw [hTA]; have := rowT_le IA; omega
  have htb : TB.length ≤ 100000 := by rw [hTB]; have := rowT_le IB; omega
  have CD : Hid (∀ (t : List UInt8) U g, t.length ≤ 100000 → Bl W2 U → U.heap[g]? = some (.cells #[.string (M.bs t)] 9 (0, 0)) → Calls Tryd.prog 24 #[.slice (some ⟨g, 0, none⟩) 1 1] U fun e w' => e = .returned (.agg (dg (S.sha t))) ∧ Bl U w') := fun t U g ht h hg =>
    Of_one t g 1 U (hG.below (bl_tr hB2 h) hG.z) (lt_heap hg) (cell_of_row _ _ 0 _ _ _ hg) (by omega)
  have CSo : Hid (∀ U, Bl W2 U → Calls Tryd.prog 17 #[.slice aa a.length ca] U fun e w' => ∃ a9 c9, e = .returned (.slice a9 (HG.srt a).length c9) ∧ RS lyR w' a9 (HG.srt a) ∧ Bl U w') := fun U h => by
    refine Calls.mono (Sort_x a _ U (hva0.bl (bl_tr hB2 h)) (by omega)) ?_
    rintro e w' ⟨v', rfl, o, k⟩
    obtain ⟨a9, c9, rfl, hr⟩ := owns_rs lyR (ks := HG.srt a) o
    exact ⟨a9, c9, rfl, hr, k⟩
  -- what is the same
  have HST : Hid (((M.bs TA).toList == (M.bs TB).toList) = q) := by
    show _ = _
    rw [bs_eq9, hq]
    by_cases h : IA = IB
    · rw [(eqRs_iff IA IB).2 h]; exact decide_eq_true (by rw [hTA, hTB, h])
    · have : eqRs IA IB = false := by
        rw [Bool.eq_false_iff]; intro h2; exact h ((eqRs_iff _ _).1 h2)
      rw [this]
      exact decide_eq_false fun h2 => h (HG.row_inj IA IB (by omega) (by omega) (by rw [← hTA, ← hTB]; exact h2))
  have HGX : Hid (q = true → XL = YL) := fun h => by
    have h2 : IA = IB := (eqRs_iff _ _).1 (hq ▸ h)
    rw [hXL, hYL, HG.rng_of r.d r.p a b (by rw [← hia, ← hib, ← hIA, ← hIB, h2])]
  have HEX : Hid (q = false → S.sha TA ≠ S.sha TB → eqG (HG.rng r.d r.p a) (HG.rng r.d r.p b) = false) := fun _ h => by
    unfold eqG
    exact decide_eq_false fun h2 => h (by rw [← hsa, ← hsb]; exact h2.2.2.2)
  have HES : Hid (∀ U, (Op.equalIn 10000 24 (.agg (dg (S.sha TA))) (.agg (dg (S.sha TB)))).run Tryd.prog U = .ok (decide (S.sha TA = S.sha TB)) U) := fun U => eqDg _ _ (S.sha_length _) (S.sha_length _) U
  have HEG : Hid (∀ U, (Op.equalIn 10000 26 (.agg XL.toArray) (.agg YL.toArray)).run Tryd.prog U = .ok (eqG (HG.rng r.d r.p a) (HG.rng r.d r.p b)) U) := fun U => by rw [hXL, hYL]; exact eqRng _ _ U
  have HEZ : Hid (∀ U, (Op.equalIn 10000 26 (.agg XL.toArray) (.agg XL.toArray)).run Tryd.prog U = .ok true U) := fun U => by
    have := eqRng (HG.rng r.d r.p a) (HG.rng r.d r.p a) U
    rw [(eqG_iff _ _).2 rfl] at this; rw [hXL]; exact this
  have HGT : Hid (q = true → eqG (HG.rng r.d r.p a) (HG.rng r.d r.p b) = true) := fun h => by
    have h2 : IA = IB := (eqRs_iff _ _).1 (hq ▸ h)
    exact (eqG_iff _ _).2 (HG.rng_of r.d r.p a b (by rw [← hia, ← hib, ← hIA, ← hIB, h2]))
  have HLX : Hid (XL.length = 35 ∧ ∀ u ∈ XL, u.oneCell' = true) := by rw [hXL]; exact ⟨fG_len _, fG_one _⟩
  have HLY : Hid (YL.length = 35 ∧ ∀ u ∈ YL, u.oneCell' = true) := by rw [hYL]; exact ⟨fG_len _, fG_one _⟩
  have IX : Hid ((Tryd.prog.info? 26).map (·.size) = some XL.length) := by show _ = _; rw [HLX.out.1]; exact infoRg
  have IY : Hid ((Tryd.prog.info? 26).map (·.size) = some YL.length) := by show _ = _; rw [HLY.out.1]; exact infoRg
  have HZ : Hid (∀ U : World, (U.alloc (.cells zRg.toArray 26)).heap[U.heap.size]? = some (.cells zRg.toArray 26 (0, 0))) := fun U => heap_alloc_new _ _
  have HA : Hid (∀ (U V : World) o, Of1 U.heap.size (U.alloc o) V → Bl U V) := fun U V o h => h.bl ((Bl.refl U).alloc _) (Nat.le_refl _)
  have HZS := hidI zRg_sz
  obtain ⟨fs, huR0⟩ := undRc
  have huR := hidI huR0
  clear huR0
  obtain ⟨eg, heg⟩ : ∃ eg, eg = eqG (HG.rng r.d r.p a) (HG.rng r.d r.p b) := ⟨_, rfl⟩
  rw [← heg] at HEX HEG HGT
  obtain ⟨ed, hed⟩ : ∃ ed, ed = decide (S.sha TA = S.sha TB) := ⟨_, rfl⟩
  rw [← hed] at HES
  have HED : Hid (ed = false → S.sha TA ≠ S.sha TB) := fun h => of_decide_eq_false (hed ▸ h)
  have CDa := hidI (fun U g => CD.out TA U g hta)
  have CDb := hidI (fun U g => CD.out TB U g htb)
  rw [← hna] at COa CIa CSo
  rw [← hnb] at COb CIb
  rw [← hna, ← hnb]
  have hz1 : ¬ (na : Int) > 80 := by omega
  have hd1 : decide ((na : Int) > 80) = false := decide_eq_false hz1
  have hz2 : ¬ (nb : Int) > 80 := by omega
  have hd2 : decide ((nb : Int) > 80) = false := decide_eq_false hz2
  rw [hg] at CGd
  have hss : (HG.srt a).length ≤ 80 := Nat.le_trans (HG.srt_len a) ha
  obtain ⟨s, hs⟩ : ∃ s, s = HG.srt a := ⟨_, rfl⟩
  rw [← hs] at CSo COz hss
  clear hs
  obtain ⟨m, hm⟩ : ∃ m, m = s.length := ⟨_, rfl⟩
  have HM := hidI hm
  rw [← hm] at CSo hss
  clear hm
  have hm1 : IntKind.i64.wrap ((m : Int) - 1) = (m : Int) - 1 := by rw [IntKind.wrap_i64]; omega
  clear hG hva0 hvb0 hB2 h0 hW2 hna hnb hg hpl hia hib hXL hYL hIA hIB hq hTA hTB hal hbl hsa hsb hta htb COf CD heg hed
  generalize fG r = FG at *
  generalize r.d = d at *
  generalize r.p = p at *
  generalize M.bs TA = SA at *
  generalize M.bs TB = SB at *
  generalize dg (S.sha TA) = DA at *
  generalize dg (S.sha TB) = DB at *
  go_enter Tryd.func5, Tryd.ntmps5
  go_upto_region 7 with (first
    | go_skip
    | (go_at_call 8; rw [← HW2.out]; refine (CA.out _ (Bl.refl _)).mono ?_; clear CA; rintro e w1 ⟨rfl, b1⟩; have HC1 := hidI b1; clear b1)
    | (refine wl_midG (by rfl) 26 _ rfl w.heap.size 0 rfl FG _ (HBX.out _ HC1.out).1 huG.out rfl HIG.out ?_)
    | (go_at_call 19; refine (CGd.out _).mono ?_; clear CGd; rintro e w2 ⟨rfl, g2⟩; have HC2 := hidI (HC1.out.step (gn_bl g2)); clear HC1 g2; obtain ⟨_, y0, y1⟩ := HBX.out _ HC2.out)
    | (go_at_call 9; refine (COa.out _ HC2.out).mono ?_; clear COa; rintro e w3 ⟨rfl, b3⟩; have HC3 := hidI (bl_tr HC2.out b3); clear HC2 b3 y0 y1)
    | (refine wl_rowU rfl 26 _ _ rfl w3.heap.size XL rfl rfl 26 zRg.toArray (HZ.out _) 35 infoRg HLX.out.1 HZS.out HLX.out.2 ?_; intro U4 hU1 hU2; have hb := HA.out _ _ _ hU2; have HC4 := hidI (bl_tr HC3.out hb); have HX4 := hidI hU1; clear hU1 hU2 hb HC3; obtain ⟨_, y0, y1⟩ := HBX.out _ HC4.out)
    | (go_at_call 9; refine (COb.out _ HC4.out).mono ?_; clear COb; rintro e w5 ⟨rfl, b5⟩; have HC5 := hidI (bl_tr HC4.out b5); have HX5 := hidI (Bl.heap b5 HX4.out); clear HC4 HX4 b5 y0 y1)
    | (refine wl_rowU rfl 26 _ _ rfl w5.heap.size YL rfl rfl 26 zRg.toArray (HZ.out _) 35 infoRg HLY.out.1 HZS.out HLY.out.2 ?_; intro U6 hU1 hU2; have hb := HA.out _ _ _ hU2; have HC6 := hidI (bl_tr HC5.out hb); have HX6 := hidI (Bl.heap hb HX5.out); have HY6 := hidI hU1; clear hU1 hU2 hb HC5 HX5))
  have HQ7 : Hid (∀ U, Bl U6 U → U.rangeAt w.heap.size 0 FG ∧ True) := fun U h => ⟨(HBX.out _ (bl_tr HC6.out h)).1, trivial⟩
  refine wp_region_noPanic ?_
  refine wp_region_held_drew (S := fun U => Bl U6 U) (by kernel_rfl) (((Bl.refl U6).drew)) (fun hHeld => ?_)
  refine wpAnyH_take (i := 0) (v := .agg (List.toArray FG)) rfl (by kernel_rfl) (by kernel_rfl) (by kernel_rfl) (fun _ _ _ h => h) (yieldsIf_load_mid (by kernel_rfl) _ (.tmp 5) (by kernel_rfl) w.heap.size 0 (by kernel_rfl) FG _ (fun W hW => (HQ7.out _ hW).1) huG.out rfl HIG.out) (by assumption) ?_
  simp only [Act.put, List.getElem_toArray, List.getElem_cons_succ, List.getElem_cons_zero, List.setIfInBounds_toArray, List.set_cons_zero, List.set_cons_succ, Act.eval, Array.getD_eq_getD_getElem?, List.getElem?_toArray, List.getElem?_cons_succ, List.getElem?_cons_zero, Option.getD_some]
  refine wpAnyH_take (i := 1) rfl (by kernel_rfl) (by kernel_rfl) (by kernel_rfl) (fun _ _ _ h => h) (yi_move (by kernel_rfl) rfl rfl) (by assumption) ?_
  simp only [Act.put, List.getElem_toArray, List.getElem_cons_succ, List.getElem_cons_zero, List.setIfInBounds_toArray, List.set_cons_zero, List.set_cons_succ, Act.eval, Array.getD_eq_getD_getElem?, List.getElem?_toArray, List.getElem?_cons_succ, List.getElem?_cons_zero, Option.getD_some]
  refine wpAnyH_take (i := 3) (v := .agg (List.toArray FG)) rfl (by kernel_rfl) (by kernel_rfl) (by kernel_rfl) (fun _ _ _ h => h) (yieldsIf_load_mid (by kernel_rfl) _ (.tmp 5) (by kernel_rfl) w.heap.size 0 (by kernel_rfl) FG _ (fun W hW => (HQ7.out _ hW).1) huG.out rfl HIG.out) (by assumption) ?_
  simp only [Act.put, List.getElem_toArray, List.getElem_cons_succ, List.getElem_cons_zero, List.setIfInBounds_toArray, List.set_cons_zero, List.set_cons_succ, Act.eval, Array.getD_eq_getD_getElem?, List.getElem?_toArray, List.getElem?_cons_succ, List.getElem?_cons_zero, Option.getD_some]
  refine wpAnyH_take (i := 4) rfl (by kernel_rfl) (by kernel_rfl) (by kernel_rfl) (fun _ _ _ h => h) (yi_move (by kernel_rfl) rfl rfl) (by assumption) ?_
  simp only [Act.put, List.getElem_toArray, List.getElem_cons_succ, List.getElem_cons_zero, List.setIfInBounds_toArray, List.set_cons_zero, List.set_cons_succ, Act.eval, Array.getD_eq_getD_getElem?, List.getElem?_toArray, List.getElem?_cons_succ, List.getElem?_cons_zero, Option.getD_some]
  refine wpAnyH_ready (rs := [2]) (by kernel_rfl) (by simp) ?_
  refine AllReadyH.cons (o := _) rfl (fun K hK => ?_) AllReadyH.nil
  go_simp
  go_at_call 15; refine (CIa.out _ (bl_tr HC6.out ((Bl.refl U6).drew))).mono ?_; rintro e V5 ⟨va7, rfl, sa7, hV5⟩; have HB5 := ((Bl.refl U6).drew).step hV5; clear hV5
  (try clear hHeld)
  refine hK.out _ _ ((HB5)) (fun hHeld => ?_)
  clear hK K
  (try simp only [Act.put, List.getElem_toArray, List.getElem_cons_succ, List.getElem_cons_zero, List.setIfInBounds_toArray, List.set_cons_zero, List.set_cons_succ, Act.eval, Array.getD_eq_getD_getElem?, List.getElem?_toArray, List.getElem?_cons_succ, List.getElem?_cons_zero, Option.getD_some])
  refine wpAnyH_ready (rs := [5]) (by kernel_rfl) (by simp) ?_
  refine AllReadyH.cons (o := _) rfl (fun K hK => ?_) AllReadyH.nil
  go_simp
  go_at_call 15; refine (CIb.out _ (bl_tr HC6.out (HB5))).mono ?_; rintro e V6 ⟨vb7, rfl, sb7, hV6⟩; have HB6 := (HB5).step hV6; have sc7 := sa7.bl hV6; clear hV6
  (try clear hHeld)
  refine hK.out _ _ ((HB6)) (fun hHeld => ?_)
  clear hK K
  (try simp only [Act.put, List.getElem_toArray, List.getElem_cons_succ, List.getElem_cons_zero, List.setIfInBounds_toArray, List.set_cons_zero, List.set_cons_succ, Act.eval, Array.getD_eq_getD_getElem?, List.getElem?_toArray, List.getElem?_cons_succ, List.getElem?_cons_zero, Option.getD_some])
  refine wpAnyH_ready (rs := [6]) (by kernel_rfl) (by simp) ?_
  refine AllReadyH.cons (o := _) rfl (fun K hK => ?_) AllReadyH.nil
  go_simp
  go_at_call 14; refine (CRc.out _ _ _ sc7 sb7).mono ?_; rintro e V7 ⟨rfl, hV7⟩; have HB7 := (HB6).step hV7; clear hV7
  (try clear hHeld)
  refine hK.out _ _ ((HB7)) (fun hHeld => ?_)
  clear hK K
  (try simp only [Act.put, List.getElem_toArray, List.getElem_cons_succ, List.getElem_cons_zero, List.setIfInBounds_toArray, List.set_cons_zero, List.set_cons_succ, Act.eval, Array.getD_eq_getD_getElem?, List.getElem?_toArray, List.getElem?_cons_succ, List.getElem?_cons_zero, Option.getD_some])
  refine wpAnyH_take (i := 7) rfl (by kernel_rfl) (by kernel_rfl) (by kernel_rfl) (fun _ _ _ h => h) (yi_assign (by kernel_rfl) rfl rfl) (by assumption) ?_
  simp only [Act.put, List.getElem_toArray, List.getElem_cons_succ, List.getElem_cons_zero, List.setIfInBounds_toArray, List.set_cons_zero, List.set_cons_succ, Act.eval, Array.getD_eq_getD_getElem?, List.getElem?_toArray, List.getElem?_cons_succ, List.getElem?_cons_zero, Option.getD_some]
  refine wpAnyH_done (by kernel_rfl) ?_ _
  refine NoPanic.normal ?_
  have HC7 := hidI (bl_tr HC6.out (HB7))
  have HX7 := hidI (Bl.heap (HB7) HX6.out)
  have HY7 := hidI (Bl.heap (HB7) HY6.out)
  clear sa7 sb7 sc7 HQ7 HC6 HX6 HY6 CRc
  go_upto_region 10 with (first
    | go_skip
    | (refine wl_midG (by rfl) 26 _ rfl w.heap.size 0 rfl FG _ (HBX.out _ HC7.out).1 huG.out rfl HIG.out ?_)
    | (refine wl_midG (by rfl) 26 _ rfl w.heap.size 0 rfl FG _ (HBX.out _ HC8.out).1 huG.out rfl HIG.out ?_)
    | (go_at_call 15; refine (CIa.out _ HC7.out).mono ?_; clear CIa; rintro e w7 ⟨va8, rfl, sa8, b8⟩; have HC7a := hidI (bl_tr HC7.out b8); have HX7a := hidI (Bl.heap b8 HX7.out); have HY7a := hidI (Bl.heap b8 HY7.out); clear HC7 HX7 HY7 b8)
    | (go_at_call 23; refine (CRa.out _ _ sa8).mono ?_; clear CRa sa8; rintro e w8 ⟨rfl, b8⟩; have HC8 := hidI (bl_tr HC7a.out b8); have HX8 := hidI (Bl.heap b8 HX7a.out); have HY8 := hidI (Bl.heap b8 HY7a.out); clear HC7a HX7a HY7a b8)
    | (go_at_call 15; refine (CIb.out _ HC8.out).mono ?_; clear CIb; rintro e w8a ⟨vb8, rfl, sb8, b8⟩; have HC8a := hidI (bl_tr HC8.out b8); have HX8a := hidI (Bl.heap b8 HX8.out); have HY8a := hidI (Bl.heap b8 HY8.out); clear HC8 HX8 HY8 b8)
    | (go_at_call 23; refine (CRb.out _ _ sb8).mono ?_; clear CRb sb8; rintro e w9 ⟨rfl, b8⟩; have HC9 := hidI (bl_tr HC8a.out b8); have HX9 := hidI (Bl.heap b8 HX8a.out); have HY9 := hidI (Bl.heap b8 HY8a.out); clear HC8a HX8a HY8a b8))
  cases q with
  | true =>
    have hst := HST.out
    have hgt := HGT.out rfl
    rw [hgt] at HEG
    clear hgt HST HGX HEX HGT HED CDa CDb HES
    go_upto_region 17 with (first
      | go_skip
      | (refine wl_midG (by rfl) 26 _ rfl w3.heap.size 0 rfl XL _ (range_of HX9.out) huG.out rfl IX.out ?_)
      | (refine wl_midG (by rfl) 26 _ rfl w5.heap.size 0 rfl YL _ (range_of HY9.out) huG.out rfl IY.out ?_)
      | (refine wl_eqlT (by rfl) 26 _ _ _ rfl XL.toArray YL.toArray rfl rfl gERg _ HEG.out ?_)
      | (go_at_call 17; refine (CSo.out _ HC9.out).mono ?_; clear CSo; rintro e y9 ⟨a9, c9, rfl, r9, b9⟩; have HC10 := hidI (bl_tr HC9.out b9); have HX10 := hidI (Bl.heap b9 HX9.out); have HR9 := hidI r9; clear b9 r9 HC9 HX9 HY9))
    (try clear HEG); (try clear HES)
    go_loopw [15, 16] (fun u15 u16 wr => ∃ j : Nat, j ≤ m ∧ u16 = .int .i64 ((m : Int) - 1 - (j : Int)) ∧ wr.ownsRow y9.heap.size 48 65 u15 j (flG lyR (s.reverse.take j)) ∧ Bl y9 wr) (fun _ u16 _ => (intOf u16 + 1).toNat)
    case atStart => exact ⟨0, Nat.zero_le _, by first | rfl | (congr 1; omega), own_empty9 _ _ _, (Bl.refl _).alloc _⟩
    case round =>
      as_aux_lemma =>
      obtain ⟨j, hjm, rfl, ho, hb⟩ := hrel
      have HO := hidI ho
      have HB := hidI hb
      clear ho hb
      by_cases hlt : j < m
      · obtain ⟨k, hk⟩ : ∃ k : Nat, (m : Int) - 1 - (j : Int) = (k : Int) := ⟨m - 1 - j, by omega⟩
        obtain ⟨x, hx⟩ : ∃ x, s[k]? = some x := ⟨s[k]'(by have := HM.out; omega), List.getElem?_eq_getElem (by have := HM.out; omega)⟩
        obtain ⟨b8, off, rfl, hbs, hrg⟩ := (HR9.out.bl HB.out) k x hx
        have HR : Hid (wr.rangeAt b8 (off + k * 65) (fR x)) := hrg
        have HT : Hid (s.reverse.take (j + 1) = s.reverse.take j ++ [x]) := by
          show _ = _
          rw [List.take_add_one, List.getElem?_reverse (by have := HM.out; omega), show s.length - 1 - j = k by have := HM.out; omega, hx]; rfl
        obtain ⟨LX, hLX⟩ : ∃ LX, LX = s.reverse.take j := ⟨_, rfl⟩
        rw [← hLX] at HT HO
        have HLJ : Hid (j = LX.length) := by show _ = _; rw [hLX, List.length_take, List.length_reverse]; have := HM.out; omega
        have HI := hidI (one_infoR x)
        have HL2 := hidI (len1 (hidI (fR_len x)))
        have HFR := hidI (show fR x = lyR.f x from rfl)
        have hkm : (k : Int) < (m : Int) := by omega
        have hw1 : IntKind.i64.wrap ((k : Int) - 1) = (k : Int) - 1 := by rw [IntKind.wrap_i64]; omega
        have hkj : (k : Int) - 1 = (m : Int) - 1 - ((j + 1 : Nat) : Int) := by omega
        have HKJ := hidI hkj
        rw [hk]
        clear hx hbs hrg hLX hlt hkj
        generalize fR x = F at *
        go_wp2_with (first
          | go_skip
          | (refine wl_midG (by rfl) 48 _ rfl b8 (off + k * 65) rfl F _ HR.out huR.out rfl HI.out ?_; clear HR)
          | (refine wl_bs (by rfl) 22 48 1 _ rfl [F] (by simp only [List.map_toArray, List.map_cons, List.map_nil]; rfl) rfl 65 HL2.out F (by simp) 72 _ undRs infoRc3 (by decide) (by decide) (by decide) (by decide) ?_)
          | (refine wl_app1M lyR 48 22 _ 72 undRs infoRc3 zRec_size (by decide) rfl _ _ rfl j LX HLJ.out x u15 rfl HB.out HO.out wr.heap.size rfl rfl (by omega) ?_ F.toArray (by rw [HFR.out]) rfl; intro a' c' w2 g1 g2 g3))
        go_roundw
        case rel => exact ⟨j + 1, by omega, by first | (rw [← HKJ.out]) | go_num, by rw [HT.out]; exact g1, g2⟩
        case measure => first | (simp [intOf]; done) | (simp [intOf]; omega)
      · obtain rfl : j = m := by omega
        have hk : (j : Int) - 1 - (j : Int) = -1 := by omega
        rw [hk]
        have HCB := hidI (bl_tr HC10.out HB.out)
        have HXB := hidI (Bl.heap HB.out HX10.out)
        have HSL : Hid (SL wr u15 s.reverse) := by
          have h1 := HO.out
          have h2 : j = s.reverse.length := by rw [List.length_reverse]; exact HM.out
          rw [h2, List.take_length] at h1
          exact sl_own h1
        obtain ⟨_, y0, y1⟩ := HBX.out _ HCB.out
        clear HO HR9 hlt HC10 HX10
        go_wp2_with (first
          | go_skip
          | (go_at_call 9; refine (COz.out _ _ HSL.out HCB.out).mono ?_; clear COz; rintro e z3 ⟨rfl, b3⟩; have HC3 := hidI (bl_tr HCB.out b3); have HX3 := hidI (Bl.heap b3 HXB.out); clear HCB HXB b3 y0 y1)
          | (refine wl_rowU rfl 26 _ _ rfl z3.heap.size XL rfl rfl 26 zRg.toArray (HZ.out _) 35 infoRg HLX.out.1 HZS.out HLX.out.2 ?_; intro Z4 hU1 hU2; have hb := HA.out _ _ _ hU2; have HC4 := hidI (bl_tr HC3.out hb); have HX4 := hidI (Bl.heap hb HX3.out); have HZ4 := hidI hU1; clear hU1 hU2 hb HC3 HX3)
          | (refine wl_midG (by rfl) 26 _ rfl z3.heap.size 0 rfl XL _ (range_of HZ4.out) huG.out rfl IX.out ?_)
          | (refine wl_midG (by rfl) 26 _ rfl w3.heap.size 0 rfl XL _ (range_of HX4.out) huG.out rfl IX.out ?_)
          | (refine wl_eqlT (by rfl) 26 _ _ _ rfl XL.toArray XL.toArray rfl rfl gERg _ HEZ.out ?_))
        go_ret
        exact ⟨rfl, HB2.out.step HC4.out⟩
  | false =>
    have hst := HST.out
    cases ed with
    | true =>
      clear HST HGX HEX HGT HED
      go_wp2_with (first
        | go_skip
        | (go_at_call 24; refine (CDa.out _ _ (HC9.out.alloc _) (heap_alloc_new _ _)).mono ?_; clear CDa; rintro e x1 ⟨rfl, b9⟩; have HC10 := hidI (bl_tr (HC9.out.alloc _) b9); clear b9 HC9)
        | (go_at_call 24; refine (CDb.out _ _ (HC10.out.alloc _) (heap_alloc_new _ _)).mono ?_; clear CDb; rintro e x2 ⟨rfl, b9⟩; have HC11 := hidI (bl_tr (HC10.out.alloc _) b9); clear b9 HC10)
        | (refine wl_eqlT (by rfl) 24 _ _ _ rfl DA DB rfl rfl gEDg _ HES.out ?_))
      go_ret
      exact ⟨rfl, HB2.out.step HC11.out⟩
    | false =>
      have hgt := HEX.out rfl (HED.out rfl)
      rw [hgt] at HEG
      clear hgt HST HGX HEX HGT HED
      go_upto_region 12 with (first
        | go_skip
        | (go_at_call 24; refine (CDa.out _ _ (HC9.out.alloc _) (heap_alloc_new _ _)).mono ?_; clear CDa; rintro e x1 ⟨rfl, b9⟩; have HC10 := hidI (bl_tr (HC9.out.alloc _) b9); have HX10 := hidI (Bl.heap b9 (Bl.heap ((Bl.refl _).alloc _) HX9.out)); have HY10 := hidI (Bl.heap b9 (Bl.heap ((Bl.refl _).alloc _) HY9.out)); clear b9 HC9 HX9 HY9)
        | (go_at_call 24; refine (CDb.out _ _ (HC10.out.alloc _) (heap_alloc_new _ _)).mono ?_; clear CDb; rintro e x2 ⟨rfl, b9⟩; have HC9 := hidI (bl_tr (HC10.out.alloc _) b9); have HX9 := hidI (Bl.heap b9 (Bl.heap ((Bl.refl _).alloc _) HX10.out)); have HY9 := hidI (Bl.heap b9 (Bl.heap ((Bl.refl _).alloc _) HY10.out)); clear b9 HC10 HX10 HY10)
        | (refine wl_eqlT (by rfl) 24 _ _ _ rfl DA DB rfl rfl gEDg _ HES.out ?_))
      go_upto_region 17 with (first
        | go_skip
        | (refine wl_midG (by rfl) 26 _ rfl w3.heap.size 0 rfl XL _ (range_of HX9.out) huG.out rfl IX.out ?_)
        | (refine wl_midG (by rfl) 26 _ rfl w5.heap.size 0 rfl YL _ (range_of HY9.out) huG.out rfl IY.out ?_)
        | (refine wl_eqlT (by rfl) 26 _ _ _ rfl XL.toArray YL.toArray rfl rfl gERg _ HEG.out ?_)
        | (go_at_call 17; refine (CSo.out _ HC9.out).mono ?_; clear CSo; rintro e y9 ⟨a9, c9, rfl, r9, b9⟩; have HC10 := hidI (bl_tr HC9.out b9); have HX10 := hidI (Bl.heap b9 HX9.out); have HR9 := hidI r9; clear b9 r9 HC9 HX9 HY9))
      (try clear HEG); (try clear HES)
      go_loopw [15, 16] (fun u15 u16 wr => ∃ j : Nat, j ≤ m ∧ u16 = .int .i64 ((m : Int) - 1 - (j : Int)) ∧ wr.ownsRow y9.heap.size 48 65 u15 j (flG lyR (s.reverse.take j)) ∧ Bl y9 wr) (fun _ u16 _ => (intOf u16 + 1).toNat)
      case atStart => exact ⟨0, Nat.zero_le _, by first | rfl | (congr 1; omega), own_empty9 _ _ _, (Bl.refl _).alloc _⟩
      case round =>
        as_aux_lemma =>
        obtain ⟨j, hjm, rfl, ho, hb⟩ := hrel
        have HO := hidI ho
        have HB := hidI hb
        clear ho hb
        by_cases hlt : j < m
        · obtain ⟨k, hk⟩ : ∃ k : Nat, (m : Int) - 1 - (j : Int) = (k : Int) := ⟨m - 1 - j, by omega⟩
          obtain ⟨x, hx⟩ : ∃ x, s[k]? = some x := ⟨s[k]'(by have := HM.out; omega), List.getElem?_eq_getElem (by have := HM.out; omega)⟩
          obtain ⟨b8, off, rfl, hbs, hrg⟩ := (HR9.out.bl HB.out) k x hx
          have HR : Hid (wr.rangeAt b8 (off + k * 65) (fR x)) := hrg
          have HT : Hid (s.reverse.take (j + 1) = s.reverse.take j ++ [x]) := by
            show _ = _
            rw [List.take_add_one, List.getElem?_reverse (by have := HM.out; omega), show s.length - 1 - j = k by have := HM.out; omega, hx]; rfl
          obtain ⟨LX, hLX⟩ : ∃ LX, LX = s.reverse.take j := ⟨_, rfl⟩
          rw [← hLX] at HT HO
          have HLJ : Hid (j = LX.length) := by show _ = _; rw [hLX, List.length_take, List.length_reverse]; have := HM.out; omega
          have HI := hidI (one_infoR x)
          have HL2 := hidI (len1 (hidI (fR_len x)))
          have HFR := hidI (show fR x = lyR.f x from rfl)
          have hkm : (k : Int) < (m : Int) := by omega
          have hw1 : IntKind.i64.wrap ((k : Int) - 1) = (k : Int) - 1 := by rw [IntKind.wrap_i64]; omega
          have hkj : (k : Int) - 1 = (m : Int) - 1 - ((j + 1 : Nat) : Int) := by omega
          have HKJ := hidI hkj
          rw [hk]
          clear hx hbs hrg hLX hlt hkj
          generalize fR x = F at *
          go_wp2_with (first
            | go_skip
            | (refine wl_midG (by rfl) 48 _ rfl b8 (off + k * 65) rfl F _ HR.out huR.out rfl HI.out ?_; clear HR)
            | (refine wl_bs (by rfl) 22 48 1 _ rfl [F] (by simp only [List.map_toArray, List.map_cons, List.map_nil]; rfl) rfl 65 HL2.out F (by simp) 72 _ undRs infoRc3 (by decide) (by decide) (by decide) (by decide) ?_)
            | (refine wl_app1M lyR 48 22 _ 72 undRs infoRc3 zRec_size (by decide) rfl _ _ rfl j LX HLJ.out x u15 rfl HB.out HO.out wr.heap.size rfl rfl (by omega) ?_ F.toArray (by rw [HFR.out]) rfl; intro a' c' w2 g1 g2 g3))
          go_roundw
          case rel => exact ⟨j + 1, by omega, by first | (rw [← HKJ.out]) | go_num, by rw [HT.out]; exact g1, g2⟩
          case measure => first | (simp [intOf]; done) | (simp [intOf]; omega)
        · obtain rfl : j = m := by omega
          have hk : (j : Int) - 1 - (j : Int) = -1 := by omega
          rw [hk]
          have HCB := hidI (bl_tr HC10.out HB.out)
          have HXB := hidI (Bl.heap HB.out HX10.out)
          have HSL : Hid (SL wr u15 s.reverse) := by
            have h1 := HO.out
            have h2 : j = s.reverse.length := by rw [List.length_reverse]; exact HM.out
            rw [h2, List.take_length] at h1
            exact sl_own h1
          obtain ⟨_, y0, y1⟩ := HBX.out _ HCB.out
          clear HO HR9 hlt HC10 HX10
          go_wp2_with (first
            | go_skip
            | (go_at_call 9; refine (COz.out _ _ HSL.out HCB.out).mono ?_; clear COz; rintro e z3 ⟨rfl, b3⟩; have HC3 := hidI (bl_tr HCB.out b3); have HX3 := hidI (Bl.heap b3 HXB.out); clear HCB HXB b3 y0 y1)
            | (refine wl_rowU rfl 26 _ _ rfl z3.heap.size XL rfl rfl 26 zRg.toArray (HZ.out _) 35 infoRg HLX.out.1 HZS.out HLX.out.2 ?_; intro Z4 hU1 hU2; have hb := HA.out _ _ _ hU2; have HC4 := hidI (bl_tr HC3.out hb); have HX4 := hidI (Bl.heap hb HX3.out); have HZ4 := hidI hU1; clear hU1 hU2 hb HC3 HX3)
            | (refine wl_midG (by rfl) 26 _ rfl z3.heap.size 0 rfl XL _ (range_of HZ4.out) huG.out rfl IX.out ?_)
            | (refine wl_midG (by rfl) 26 _ rfl w3.heap.size 0 rfl XL _ (range_of HX4.out) huG.out rfl IX.out ?_)
            | (refine wl_eqlT (by rfl) 26 _ _ _ rfl XL.toArray XL.toArray rfl rfl gERg _ HEZ.out ?_))
          go_ret
          exact ⟨rfl, HB2.out.step HC4.out⟩
theorem tells_walk (a b : List HG.R) (va vb : Value) (r : HG.G) (w : World) (hG : GW w) (hva : SL w va a) (hvb : SL w vb b) :
    Calls Tryd.prog 5 #[va, vb, .agg (fG r).toArray] w fun e w' => e = .returned (.bool true) ∧ Bl w w' := by
  by_cases ha : 80 < a.length
  · exact te_la a b va vb r w hG hva hvb ha
  · by_cases hb : 80 < b.length
    · exact te_lb a b va vb r w hG hva hvb (by omega) hb
    · cases hg : HG.good r with
      | false => exact te_bad a b va vb r w hG hva hvb (by omega) (by omega) hg
      | true => exact te_main a b va vb r w hG hva hvb (by omega) (by omega) hg
end Go.Proofs.YtfbjakhanjbaeaaDoor
