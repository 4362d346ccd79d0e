/- Present, its answer one's own; remainder; mix. -/
import Derived.Test.YtebmgajijjhinaaSo1
import Derived.Test.YtebmgajijjhinaaSoMath
namespace Go.Proofs.Ytebmgajijjhinaa
open Go.RowKit Go.Maps
set_option linter.unusedVariables false
set_option linter.unusedSimpArgs false

theorem owns_base {N M k n : Nat} {W : World} {T : TypeId} {v : Value} {xs : List Value} (h : W.ownsRow N T k v n xs) (hM : M ≤ N) : W.ownsRow M T k v n xs := by
  obtain ⟨h0, h1 | ⟨g, cap, cur, h1, h2, h3⟩⟩ := h
  · exact ⟨h0, Or.inl h1⟩
  · exact ⟨h0, Or.inr ⟨g, cap, cur, h1, by omega, h3⟩⟩
set_option maxRecDepth 8000 in
set_option maxHeartbeats 4000000 in
theorem Present_o {W : World} {v : Value} {f : K.Vw} (C : GetC W v f) :
    Calls Try.prog 28 #[v] W fun e w' => ∃ v', e = .returned v' ∧ w'.ownsRow W.heap.size 3 1 v' (K.pres f).length (flG lyI (K.pres f)) ∧ Bl W w' := by
  have C1 : Hid (Calls Try.prog 27 #[v] W fun e w' => ∃ a c, e = .returned (.slice a (K.all f).length c) ∧ RS lyM w' a (K.all f) ∧ Bl W w') := All_g C
  have HP : Hid (K.pres f = K.preL (K.all f) (K.all f).length) := (K.preL_all f).symm
  have hl : (K.all f).length ≤ 6 := K.allN_len f 6
  generalize K.pres f = P at *
  generalize K.all f = l at *
  obtain ⟨fs, hum⟩ := undMe
  clear C
  go_enter Try.func28, Try.ntmps28
  go_wp2_with (first
    | (go_at_call 27; refine (C1.out).mono ?_; clear C1; rintro e W2 ⟨a, c, rfl, hv, HB⟩))
  have HV : Hid (RS lyM W2 a l) := hv
  have HB0 : Hid (Bl W W2) := HB
  clear hv HB
  go_loopw [3, 9] (fun u3 u9 wr => ∃ k : Nat, k ≤ l.length ∧ u9 = .int .i64 (k : Int) ∧ Bl W2 wr ∧ wr.ownsRow W2.heap.size 3 1 u3 (K.preL l k).length (flG lyI (K.preL l k))) (fun _ u9 _ => l.length - (intOf u9).toNat)
  case atStart => exact ⟨0, by omega, rfl, Bl.refl _, ⟨rfl, Or.inl ⟨rfl, rfl⟩⟩⟩
  case round =>
    obtain ⟨k, hk, rfl, HB, ho⟩ := hrel
    by_cases hlt : k < l.length
    · obtain ⟨m, hm⟩ : ∃ m, l[k]? = some m := ⟨l[k], List.getElem?_eq_getElem hlt⟩
      obtain ⟨b2, off, rfl, hb2, hrg⟩ := (HV.out.bl HB) k m hm
      have HS : Hid (K.preL l (k + 1) = K.preL l k ++ if K.here m = true then [m.1] else []) := K.preL_succ hm
      have hal := K.preL_len l k
      have HO : Hid (wr.ownsRow W2.heap.size 3 1 u3 (K.preL l k).length (flG lyI (K.preL l k))) := ho
      obtain ⟨L, hL⟩ : ∃ L, K.preL l k = L := ⟨_, rfl⟩
      rw [hL] at HS HO hal
      clear ho hL hm
      obtain ⟨n, i, s⟩ := m
      have HR : Hid (wr.rangeAt b2 (off + k * 3) [.int .i64 n, .int .i64 i, .int .i64 s]) := hrg
      clear hrg
      have HB2 : Hid (Bl W2 (wr.alloc (.cells #[.int .i64 n, .int .i64 i, .int .i64 s] 54))) := HB.alloc _
      have HO2 : Hid ((wr.alloc (.cells #[.int .i64 n, .int .i64 i, .int .i64 s] 54)).ownsRow W2.heap.size 3 1 u3 L.length (flG lyI L)) := ownsRow_bl HO.out ((Bl.refl _).alloc _)
      by_cases hh : K.here (n, i, s) = true
      · have HE : Hid (K.preL l (k + 1) = L ++ [n]) := by show _ = _; rw [HS.out, if_pos hh]
        have hs01 : s = 0 ∨ s = 1 := by simpa [K.here] using hh
        clear HS hh
        rcases hs01 with rfl | rfl
        all_goals
          go_wp2_with (first
            | (refine wpList_load_mid rfl 54 _ rfl b2 (off + k * 3) rfl [.int .i64 n, .int .i64 i, .int .i64 _] _ HR.out hum rfl infoMe ?_; clear HR)
            | (refine wl_app1M lyI 3 23 (.int .i64 0) 8 undIs infoIn3 rfl (by decide) rfl _ _ rfl L.length L rfl n u3 rfl HB2.out HO2.out (wr.heap.size + 1) (by simp) rfl (by omega) ?_ _ rfl rfl; intro a' c' w2 g1 g2 g3))
          have z1 : w2.ownsRow W2.heap.size 3 1 (.slice a' (L.length + 1) c') (K.preL l (k + 1)).length (flG lyI (K.preL l (k + 1))) := by
            rw [HE.out, List.length_append]; exact g1
          go_roundw
          case rel => exact ⟨k + 1, by omega, by go_num, g2, z1⟩
          case measure => simp [intOf]; omega
      · have HE : Hid (K.preL l (k + 1) = L) := by show _ = _; rw [HS.out, if_neg hh, List.append_nil]
        have hs01 : ¬ (s = 0 ∨ s = 1) := by simpa [K.here] using hh
        have hs0 : (s == 0) = false := by simp; omega
        have hs1 : (s == 1) = false := by simp; omega
        clear HS hh
        go_wp2_with (first
          | (refine wpList_load_mid rfl 54 _ rfl b2 (off + k * 3) rfl [.int .i64 n, .int .i64 i, .int .i64 s] _ HR.out hum rfl infoMe ?_; clear HR))
        go_roundw
        case rel => exact ⟨k + 1, by omega, by go_num, HB2.out, by rw [HE.out]; exact HO2.out⟩
        case measure => simp [intOf]; omega
    · obtain rfl : k = l.length := by omega
      have HQ : Hid (wr.ownsRow W.heap.size 3 1 u3 P.length (flG lyI P) ∧ Bl W wr) := ⟨by rw [HP.out]; exact owns_base ho (Below.size HB0.out), HB0.out.step HB⟩
      clear ho HB
      go_wp2_with fail
      go_ret
      exact ⟨_, rfl, HQ.out⟩
theorem remainder_x (n by' : Int) (hb : 0 < by') (hb2 : by' ≤ 1000) (W : World) : Calls Try.prog 67 #[.int .i64 n, .int .i64 by'] W fun e w' => e = .returned (.int .i64 (n % by')) ∧ w' = W := by
  have h0 : by' ≠ 0 := by omega
  have h1 : (by' == 0) = false := beq_eq_false_iff_ne.2 h0
  have HM : Hid (n % by' = if n.tmod by' < 0 then n.tmod by' + by' else n.tmod by') := by
    show _ = _
    have e2 := Int.tmod_add_mul_tdiv n by'
    have hr2 : -by' < n.tmod by' ∧ n.tmod by' < by' := by
      have := Int.natAbs_tmod n by'
      have h2 : n.natAbs % by'.natAbs < by'.natAbs := Nat.mod_lt _ (by omega)
      omega
    have e3 : n % by' = n.tmod by' % by' := by
      have : (n.tmod by' + by' * n.tdiv by') % by' = n.tmod by' % by' := Int.add_mul_emod_self_left _ _ _
      rwa [e2] at this
    rw [e3]
    split
    · have : (n.tmod by' + by') % by' = n.tmod by' % by' := Int.add_emod_right _ _
      rw [← this]
      exact Int.emod_eq_of_lt (by omega) (by omega)
    · exact Int.emod_eq_of_lt (by omega) (by omega)
  generalize n % by' = z at *
  obtain ⟨r, hr⟩ : ∃ r, n.tmod by' = r := ⟨_, rfl⟩
  have hr2 : -1000 ≤ r ∧ r ≤ 1000 := by
    rw [← hr]
    have := Int.natAbs_tmod n by'
    have h2 : n.natAbs % by'.natAbs < by'.natAbs := Nat.mod_lt _ (by omega)
    omega
  rw [hr] at HM
  by_cases hn : r < 0
  · rw [if_pos hn] at HM
    go_enter Try.func67, Try.ntmps67
    go_wp2_with fail
    go_ret
    exact ⟨by rw [HM.out]; rfl, rfl⟩
  · rw [if_neg hn] at HM
    go_enter Try.func67, Try.ntmps67
    go_wp2_with fail
    go_ret
    exact ⟨by rw [HM.out]; rfl, rfl⟩
/-- two cells of a row of one's own -/
theorem own_cells {W : World} {N g n cap : Nat} {L : List Int} (hn : n = L.length) (h : W.ownsRow N 3 1 (.slice (some ⟨g, 0, none⟩) n cap) n (flG lyI L)) {i : Nat} (hi : i < n) : W.cell? ⟨g, i, none⟩ = some (.int .i64 (L.getD i 0)) ∧ W.frozen? ⟨g, i, none⟩ = false := by
  subst hn
  obtain ⟨C, hC⟩ := own_tag0 h rfl
  obtain ⟨a, c, ha, hrs⟩ := owns_rs lyI h
  obtain ⟨b, off, e, _, hc⟩ := hrs.at1 (List.getElem?_eq_getElem hi)
  rw [e] at ha
  obtain ⟨rfl, rfl⟩ : g = b ∧ 0 = off := by simpa using (Value.slice.inj ha).1
  rw [Nat.zero_add] at hc
  refine ⟨?_, by simp [World.frozen?, hC]⟩
  rw [hc, List.getD_eq_getElem?_getD, List.getElem?_eq_getElem hi]; rfl
theorem own_set1 {W : World} {N g n cap : Nat} {L : List Int} (hn : n = L.length) (h : W.ownsRow N 3 1 (.slice (some ⟨g, 0, none⟩) n cap) n (flG lyI L)) {i : Nat} (hi : i < n) (x : Int) : (W.setCell ⟨g, i, none⟩ (.int .i64 x)).ownsRow N 3 1 (.slice (some ⟨g, 0, none⟩) n cap) n (flG lyI (L.set i x)) := by
  have h3 := own_setG lyI hn h (i := i) (by omega) x
  have e : W.setCells g (i * lyI.k) (lyI.f x) = W.setCell ⟨g, i, none⟩ (.int .i64 x) := by
    show W.setCells g (i * 1) [.int .i64 x] = _
    rw [Nat.mul_one]; rfl
  rw [← e]; exact h3
set_option maxRecDepth 8000 in
set_option maxHeartbeats 4000000 in
theorem mix_x {N n : Nat} {v : Value} {l : List Int} {W : World} (d : Int) (hd : i64 d) (hn : n = l.length) (hown : W.ownsRow N 3 1 v n (flG lyI l)) (hl : l.length ≤ 900) :
    Calls Try.prog 52 #[v, .int .i64 d] W fun e w' => e = .returned (.tuple #[]) ∧ w'.ownsRow N 3 1 v n (flG lyI (SO.mix l d)) ∧ W.grownBy w' v.ownBlock := by
  subst hn
  obtain ⟨a, c, rfl, hRS⟩ := owns_rs lyI hown
  cases hl0 : l with
  | nil =>
    subst hl0
    have HQ : Hid (W.ownsRow N 3 1 (.slice a ([] : List Int).length c) ([] : List Int).length (flG lyI (SO.mix [] d))) := hown
    clear hown hRS
    go_enter Try.func52, Try.ntmps52
    go_wp2_with fail
    go_loop [1, 4, 5] (fun u1 u4 _ => u1 = .int .i64 d ∧ u4 = .int .i64 (-1)) (fun _ _ _ => 0)
    case atStart => exact ⟨rfl, by go_num⟩
    case round =>
      obtain ⟨rfl, rfl⟩ := hrel
      go_wp2_with fail
      refine bodyPost_end (results_none rfl _ _ _) rfl ?_
      exact ⟨rfl, HQ.out, grown_refl _ _⟩
  | cons x0 r0 =>
    rw [← hl0]
    have hpos : 0 < l.length := by rw [hl0]; simp
    obtain ⟨g, rfl⟩ : ∃ g, a = some ⟨g, 0, none⟩ := by
      obtain ⟨_, ⟨h1, h2⟩ | ⟨g', cap', cur, h1, _⟩⟩ := hown
      · omega
      · simp only [Value.slice.injEq] at h1
        exact ⟨g', h1.1⟩
    have HO0 : Hid (W.ownsRow N 3 1 (.slice (some ⟨g, 0, none⟩) l.length c) l.length (flG lyI l)) := hown
    have HM : Hid (SO.mix l d = SO.mixN (l.length - 1) l d) := rfl
    have hd1 := hd.1
    have hd2 := hd.2
    clear hown hRS hl0 hd
    go_enter Try.func52, Try.ntmps52
    go_wp2_with fail
    go_loopw [1, 4, 5] (fun u1 u4 _ wr => ∃ (i : Nat) (L : List Int) (e : Int), u1 = .int .i64 e ∧ u4 = .int .i64 (i : Int) ∧ -9223372036854775808 ≤ e ∧ e ≤ 9223372036854775807 ∧ i < l.length ∧ L.length = l.length ∧ SO.mixN i L e = SO.mix l d ∧ wr.ownsRow N 3 1 (.slice (some ⟨g, 0, none⟩) l.length c) l.length (flG lyI L) ∧ W.grownBy wr (some g)) (fun _ u4 _ _ => (intOf u4).toNat)
    case atStart => exact ⟨l.length - 1, l, d, rfl, by go_num, hd1, hd2, by omega, rfl, rfl, HO0.out, grown_refl _ _⟩
    case round =>
      obtain ⟨i, L, e, rfl, rfl, he1, he2, hi, hL, hm, ho, hg⟩ := hrel
      clear HO0
      cases i with
      | zero =>
        have HE : Hid (wr.ownsRow N 3 1 (.slice (some ⟨g, 0, none⟩) l.length c) l.length (flG lyI (SO.mix l d)) ∧ W.grownBy wr (some g)) := ⟨by rw [← hm]; exact ho, hg⟩
        clear ho hg hm
        go_wp2_with fail
        refine bodyPost_end (results_none rfl _ _ _) rfl ?_
        exact ⟨rfl, HE.out⟩
      | succ i =>
        obtain ⟨j, hj⟩ : ∃ j : Nat, e % ((i : Int) + 2) = j := ⟨(e % ((i : Int) + 2)).toNat, by have := Int.emod_nonneg e (b := (i : Int) + 2) (by omega); omega⟩
        have hjl : j < i + 2 := by have := Int.emod_lt_of_pos e (b := (i : Int) + 2) (by omega); omega
        have C1 : Hid (∀ W, Calls Try.prog 67 #[.int .i64 e, .int .i64 ((i : Int) + 2)] W fun e w' => e = .returned (.int .i64 (j : Int)) ∧ w' = W) := fun W => by
          have := remainder_x e ((i : Int) + 2) (by omega) (by omega) W
          rw [hj] at this; exact this
        obtain ⟨ci, fi⟩ := own_cells hL.symm ho (i := i + 1) hi
        obtain ⟨cj, fj⟩ := own_cells hL.symm ho (i := j) (by omega)
        have h2 := own_set1 hL.symm ho (i := i + 1) hi (L.getD j 0)
        have h3 := own_set1 (L := L.set (i + 1) (L.getD j 0)) (by rw [List.length_set]; exact hL.symm) h2 (i := j) (by omega) (L.getD (i + 1) 0)
        obtain ⟨cj2, fj2⟩ := own_cells (L := L.set (i + 1) (L.getD j 0)) (by rw [List.length_set]; exact hL.symm) h2 (i := j) (by omega)
        have HN : Hid (SO.mixN i ((L.set (i + 1) (L.getD j 0)).set j (L.getD (i + 1) 0)) (e.tdiv ((i : Int) + 2)) = SO.mix l d) := by
          show _ = _
          rw [← hm]
          show _ = SO.mixN i (SO.swp L (i + 1) (e % ((i : Int) + 2)).toNat) (e.tdiv ((i : Int) + 2))
          rw [hj]; rfl
        have HO : Hid ((((wr.setCell ⟨g, i + 1, none⟩ (.int .i64 (L.getD j 0))).setCell ⟨g, j, none⟩ (.int .i64 (L.getD (i + 1) 0))).ownsRow N 3 1 (.slice (some ⟨g, 0, none⟩) l.length c) l.length (flG lyI ((L.set (i + 1) (L.getD j 0)).set j (L.getD (i + 1) 0)))) ∧ W.grownBy ((wr.setCell ⟨g, i + 1, none⟩ (.int .i64 (L.getD j 0))).setCell ⟨g, j, none⟩ (.int .i64 (L.getD (i + 1) 0))) (some g)) := ⟨h3, (hg.trans (grown_setCell _ _ _ _)).trans (grown_setCell _ _ _ _)⟩
        have HL2 : Hid (((L.set (i + 1) (L.getD j 0)).set j (L.getD (i + 1) 0)).length = l.length) := by show _ = _; rw [List.length_set, List.length_set]; exact hL
        have hq : -9223372036854775808 ≤ e.tdiv ((i : Int) + 2) ∧ e.tdiv ((i : Int) + 2) ≤ 9223372036854775807 := by
          have h5 : (e.tdiv ((i : Int) + 2)).natAbs ≤ e.natAbs := by rw [Int.natAbs_tdiv]; exact Nat.div_le_self _ _
          have h6 := Int.tmod_add_mul_tdiv e ((i : Int) + 2)
          refine ⟨by omega, ?_⟩
          rcases Int.lt_or_le e 0 with h | h
          · have : e.tdiv ((i : Int) + 2) ≤ 0 := by
              have := Int.tdiv_nonneg (a := -e) (b := (i : Int) + 2) (by omega) (by omega)
              rw [Int.neg_tdiv] at this; omega
            omega
          · omega
        obtain ⟨q, hq0⟩ : ∃ q, e.tdiv ((i : Int) + 2) = q := ⟨_, rfl⟩
        rw [hq0] at HN hq
        obtain ⟨hq1, hq2⟩ := hq
        have HJ : Hid (j < i + 2) := hjl
        clear hm ho hg h2 h3 hj hL
        generalize (L.set (i + 1) (L.getD j 0)).set j (L.getD (i + 1) 0) = L2 at *
        generalize L.getD j 0 = xj at *
        generalize L.getD (i + 1) 0 = xi at *
        have hjl2 : (j : Int) < (l.length : Int) := by omega
        go_wp2_with (go_at_call 67; refine (C1.out _).mono ?_; rintro e1 w1 ⟨rfl, hw⟩; rw [hw]; clear hw w1)
        go_region
        go_wp2_with fail
        go_roundw
        case rel => exact ⟨i, L2, q, by rw [show (i : Int) + 1 + 1 = (i : Int) + 2 by omega, hq0], by go_num, hq1, hq2, by omega, HL2.out, HN.out, HO.out.1, HO.out.2.trans (grown_bl ((Bl.refl _).drew) _)⟩
        case measure => simp [intOf]
end Go.Proofs.Ytebmgajijjhinaa
