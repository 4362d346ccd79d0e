/- The reference's Left and Same. -/
import Derived.Test.YtpgagddofifikaaHR1
import Derived.Laws.StructEq
namespace Go.Proofs.Ytpgagddofifikaa
open Go.RowKit Go.Maps
set_option linter.unusedVariables false
set_option linter.unusedSimpArgs false

theorem eqMeN (f : Nat) (a b : K.Me) (W : World) : (Op.equalIn (f + 1 + 1) 41 (.agg #[.int .i64 a.1, .int .i64 a.2.1, .int .i64 a.2.2]) (.agg #[.int .i64 b.1, .int .i64 b.2.1, .int .i64 b.2.2])).run Try.prog W = .ok (decide (a = b)) W := by
  have hS : Try.prog.underlying 41 = some (.struct (Try.prog.fieldsOf 41)) := by kernel_rfl
  have hp : Try.prog.stoodInHeld 41 = false := by kernel_rfl
  rw [run_equalIn_struct W (f + 1) 41 _ _ hS hp]
  simp only [Program.fieldsOf, Try.underlying41, Op.eqFields]
  obtain ⟨n, i, s⟩ := a
  obtain ⟨n2, i2, s2⟩ := b
  have p0 := fun (x y z : Int) W => part_one (t := 3) Try.isAgg3 #[.int .i64 x, .int .i64 y, .int .i64 z] 0 (.int .i64 x) rfl W
  have p1 := fun (x y z : Int) W => part_one (t := 3) Try.isAgg3 #[.int .i64 x, .int .i64 y, .int .i64 z] 1 (.int .i64 y) rfl W
  have p2 := fun (x y z : Int) W => part_one (t := 3) Try.isAgg3 #[.int .i64 x, .int .i64 y, .int .i64 z] 2 (.int .i64 z) rfl W
  have h1 : ∀ x y W, (Op.equalIn (f + 1) 3 (.int .i64 x) (.int .i64 y)).run Try.prog W = .ok (x == y) W := fun x y W => run_equalIn_int W f 3 .i64 .i64 x y Try.underlying3
  by_cases e1 : n = n2
  · subst e1
    by_cases e2 : i = i2
    · subst e2
      by_cases e3 : s = s2
      · subst e3; simp [p0, p1, p2, h1]
      · simp [p0, p1, p2, h1, e3]
    · simp [p0, p1, p2, h1, e2]
  · simp [p0, p1, p2, h1, e1]
theorem part_me (x y z q : Int) (W : World) : (part 41 #[.int .i64 x, .int .i64 y, .int .i64 z, .int .i64 q] 0).run Try.prog W = .ok (.agg #[.int .i64 x, .int .i64 y, .int .i64 z]) W := by
  unfold part
  simp only [Sem.run_bind, Try.isAgg41, Try.sizeOf41, Result.andThen_ok, if_true, Sem.run_pure]
  rfl
theorem eqRu (a b : HU.Ru) (W : World) : (Op.equalIn 10000 48 (.agg (ruV a)) (.agg (ruV b))).run Try.prog W = .ok (decide (a = b)) W := by
  have hS : Try.prog.underlying 48 = some (.struct (Try.prog.fieldsOf 48)) := by kernel_rfl
  have hp : Try.prog.stoodInHeld 48 = false := by kernel_rfl
  rw [show (10000 : Nat) = 9999 + 1 from rfl, run_equalIn_struct W 9999 48 _ _ hS hp]
  simp only [Program.fieldsOf, Try.underlying48, Op.eqFields]
  obtain ⟨⟨n, i, s⟩, q⟩ := a
  obtain ⟨⟨n2, i2, s2⟩, q2⟩ := b
  unfold ruV
  have p1 := fun (x y z q : Int) W => part_one (t := 3) Try.isAgg3 #[.int .i64 x, .int .i64 y, .int .i64 z, .int .i64 q] 3 (.int .i64 q) rfl W
  have h1 : ∀ x y W, (Op.equalIn 9999 3 (.int .i64 x) (.int .i64 y)).run Try.prog W = .ok (x == y) W := fun x y W => run_equalIn_int W 9998 3 .i64 .i64 x y Try.underlying3
  have h2 : ∀ (x y z x' y' z' : Int) W, (Op.equalIn 9999 41 (.agg #[.int .i64 x, .int .i64 y, .int .i64 z]) (.agg #[.int .i64 x', .int .i64 y', .int .i64 z'])).run Try.prog W = .ok (decide (((x, y, z) : K.Me) = (x', y', z'))) W := fun x y z x' y' z' W => eqMeN 9997 (x, y, z) (x', y', z') W
  by_cases e1 : ((n, i, s) : K.Me) = (n2, i2, s2)
  · have e1' := e1
    obtain ⟨rfl, rfl, rfl⟩ : n = n2 ∧ i = i2 ∧ s = s2 := by simpa using e1
    by_cases e2 : q = q2
    · subst e2; simp [part_me, p1, h1, h2]
    · simp [part_me, p1, h1, h2, e2]
  · have : ¬ (((n, i, s), q) : HU.Ru) = ((n2, i2, s2), q2) := fun e => e1 (congrArg Prod.fst e)
    rw [decide_eq_false this]
    simp [part_me, p1, h1, h2, decide_eq_false e1]
    intro a b c
    exact absurd (by rw [a, b, c]) e1
set_option maxRecDepth 8000 in
set_option maxHeartbeats 1000000 in
theorem rSame_x (l1 l2 : List HU.Ru) (a1 a2 : Option Addr) (c1 c2 : Nat) (w : World) (h1 : RS lyR w a1 l1) (h2 : RS lyR w a2 l2) (hn1 : l1.length ≤ maxLen) (hn2 : l2.length ≤ maxLen) :
    Calls Try.prog 14 #[.slice a1 l1.length c1, .slice a2 l2.length c2] w fun e w' => e = .returned (.bool (decide (l1 = l2))) ∧ ∃ n, w' = w.drewN n := by
  have H1 : Hid (RS lyR w a1 l1) := h1
  have H2 : Hid (RS lyR w a2 l2) := h2
  clear h1 h2
  unfold maxLen at hn1 hn2
  by_cases hln : l1.length = l2.length
  · have hq : ((l1.length : Int) != (l2.length : Int)) = false := by simp [hln]
    have HLN : Hid (l1.length = l2.length) := hln
    clear hln
    go_enter Try.func14, Try.ntmps14
    go_wp2_with fail
    go_loopw [5] (fun u5 wr => ∃ k : Nat, k ≤ l1.length ∧ u5 = .int .i64 k ∧ (∀ i, i < k → l1[i]? = l2[i]?) ∧ ∃ n, wr = w.drewN n) (fun u5 _ => l1.length - (intOf u5).toNat)
    case atStart => exact ⟨0, Nat.zero_le _, rfl, fun i hi => by omega, 0, rfl⟩
    case round =>
      obtain ⟨k, hk, rfl, hsame, n, rfl⟩ := hrel
      have HS : Hid (∀ i, i < k → l1[i]? = l2[i]?) := hsame
      clear hsame
      by_cases hlt : k < l1.length
      · obtain ⟨t1, ht1⟩ : ∃ t, l1[k]? = some t := ⟨l1[k], List.getElem?_eq_getElem hlt⟩
        have hlt2 : k < l2.length := by rw [← HLN.out]; exact hlt
        obtain ⟨t2, ht2⟩ : ∃ t, l2[k]? = some t := ⟨l2[k], List.getElem?_eq_getElem hlt2⟩
        obtain ⟨b1, o1, rfl, _, g1'⟩ := H1.out k t1 ht1
        obtain ⟨b2, o2, rfl, _, g2'⟩ := H2.out k t2 ht2
        have heq : ∀ W, (Op.equalIn 10000 48 (.agg (ruV t1)) (.agg (ruV t2))).run Try.prog W = .ok (decide (t1 = t2)) W := fun W => eqRu t1 t2 W
        obtain ⟨⟨n1, i1, s1⟩, q1⟩ := t1
        obtain ⟨⟨n2, i2, s2⟩, q2⟩ := t2
        unfold ruV at heq
        have R1 : w.rangeAt b1 (o1 + k * 4) [.int .i64 n1, .int .i64 i1, .int .i64 s1, .int .i64 q1] := g1'
        have R2 : w.rangeAt b2 (o2 + k * 4) [.int .i64 n2, .int .i64 i2, .int .i64 s2, .int .i64 q2] := g2'
        have k0 := R1 0 _ rfl
        have k1 := R1 1 _ rfl
        have k2 := R1 2 _ rfl
        have l0 := R2 0 _ rfl
        have l1' := R2 1 _ rfl
        have l2' := R2 2 _ rfl
        have k3 := R1 3 _ rfl
        have l3' := R2 3 _ rfl
        simp only [Nat.add_zero] at k0 l0
        clear g1' g2'
        have HT1 : Hid (l1[k]? = some ((n1, i1, s1), q1)) := ht1
        have HT2 : Hid (l2[k]? = some ((n2, i2, s2), q2)) := ht2
        clear ht1 ht2
        simp only at heq
        obtain ⟨fs, hum⟩ := undRu
        by_cases hq2 : ((n1, i1, s1), q1) = ((n2, i2, s2), q2)
        · have hbq : decide (((n1, i1, s1), q1) = ((n2, i2, s2), q2)) = true := decide_eq_true hq2
          have HQ : Hid (((n1, i1, s1), q1) = ((n2, i2, s2), q2)) := hq2
          rw [hbq] at heq
          clear hq2 hbq
          go_wp2_with fail
          go_quiet (fail)
          go_wp2_with fail
          go_roundw
          case rel =>
            refine ⟨k + 1, by omega, by go_num, ?_, _, rfl⟩
            intro i hi
            by_cases hik : i = k
            · subst hik; rw [HT1.out, HT2.out, HQ.out]
            · exact HS.out i (by omega)
          case measure => simp [intOf]; omega
        · have hbq : decide (((n1, i1, s1), q1) = ((n2, i2, s2), q2)) = false := decide_eq_false hq2
          have HQ : Hid (¬ ((n1, i1, s1), q1) = ((n2, i2, s2), q2)) := hq2
          rw [hbq] at heq
          clear hq2 hbq
          go_wp2_with fail
          go_quiet (fail)
          go_wp2_with fail
          go_ret
          refine ⟨?_, _, World.drewN_drewN ..⟩
          have hne : l1 ≠ l2 := by
            intro e
            apply HQ.out
            have h := HT1.out
            rw [e, HT2.out] at h
            exact (Option.some.inj h).symm
          rw [decide_eq_false hne]
          rfl
      · obtain rfl : k = l1.length := by omega
        go_wp2_with fail
        go_ret
        refine ⟨?_, n, rfl⟩
        have he : l1 = l2 := by
          apply List.ext_getElem?
          intro i
          by_cases hi : i < l1.length
          · exact HS.out i hi
          · rw [List.getElem?_eq_none (by omega), List.getElem?_eq_none (by rw [← HLN.out]; omega)]
        rw [decide_eq_true he]
        rfl
  · have hq : ((l1.length : Int) != (l2.length : Int)) = true := by rw [bne_iff_ne]; omega
    have hne : l1 ≠ l2 := fun e => hln (by rw [e])
    rw [decide_eq_false hne]
    clear hln hne
    go_enter Try.func14, Try.ntmps14
    go_wp2_with fail
    go_ret
    exact ⟨rfl, 0, rfl⟩
/-- the first so many nodes' rumours -/
def lfN (F : HU.St) (k : Nat) : List HU.Ru := ((HU.nodes.take k).map F).filter (fun r => decide (0 < r.2))
theorem lfN_all (F : HU.St) : lfN F 6 = HU.lf F := rfl
theorem lfN_succ (F : HU.St) (k : Nat) (hk : k < 6) : lfN F (k + 1) = lfN F k ++ (if 0 < (F ((k : Int) + 1)).2 then [F ((k : Int) + 1)] else []) := by
  unfold lfN
  have e : HU.nodes[k]? = some ((k : Int) + 1) := by
    rcases (by omega : k = 0 ∨ k = 1 ∨ k = 2 ∨ k = 3 ∨ k = 4 ∨ k = 5) with rfl | rfl | rfl | rfl | rfl | rfl <;> rfl
  rw [List.take_add_one, e, Option.toList_some, List.map_append, List.filter_append]
  congr 1
  by_cases h : 0 < (F ((k : Int) + 1)).2
  · simp [h]
  · simp [h]
theorem lfN_len (F : HU.St) (k : Nat) : (lfN F k).length ≤ 6 := by
  unfold lfN
  refine Nat.le_trans (List.length_filter_le _ _) ?_
  rw [List.length_map, List.length_take]
  show min k 6 ≤ 6
  omega
set_option maxRecDepth 8000 in
set_option maxHeartbeats 4000000 in
theorem rLeft_x {W : World} {r : Nat} {T : Int} {F : HU.St} (x : RH W r T F) :
    Calls Try.prog 16 #[.pointer (some ⟨r, 0, none⟩)] W fun e w' => ∃ a c, e = .returned (.slice a (HU.lf F).length c) ∧ RS lyR w' a (HU.lf F) ∧ Bl W w' := by
  have HX := hidP x
  obtain ⟨fs, hum⟩ := undRu
  clear x
  have HE : Hid ((W.alloc (.cells #[] 48)).ownsRow W.heap.size 48 4 (.slice (some ⟨W.heap.size, 0, none⟩) 0 0) (lfN F 0).length (flG lyR (lfN F 0))) := own_empty9 W _ 4
  go_enter Try.func16, Try.ntmps16
  go_wp2_with fail
  go_loopw [3, 4] (fun u3 u4 wr => ∃ k : Nat, k ≤ 6 ∧ u4 = .int .i64 ((k : Int) + 1) ∧ Bl W wr ∧ wr.ownsRow W.heap.size 48 4 u3 (lfN F k).length (flG lyR (lfN F k))) (fun _ u4 _ => 7 - (intOf u4).toNat)
  case atStart => exact ⟨0, by omega, rfl, (Bl.refl _).alloc _, HE.out⟩
  case round =>
    obtain ⟨k, hk, rfl, HB, ho⟩ := hrel
    clear HE
    by_cases hlt : k < 6
    · have HS : Hid (lfN F (k + 1) = lfN F k ++ (if 0 < (F ((k : Int) + 1)).2 then [F ((k : Int) + 1)] else [])) := lfN_succ F k hlt
      obtain ⟨_, c1, c2, c3, c4, _⟩ := (HX.out.grow HB).cn (k + 1) (by omega)
      have ek : (((k + 1 : Nat)) : Int) = (k : Int) + 1 := by omega
      rw [ek] at c1 c2 c3 c4
      have hal := lfN_len F k
      have HO : Hid (wr.ownsRow W.heap.size 48 4 u3 (lfN F k).length (flG lyR (lfN F k))) := ho
      have HBH := hidP HB
      have hkz : (k : Int) + 1 < 7 := by omega
      have hk0 : (0 : Int) ≤ (k : Int) + 1 := by omega
      obtain ⟨⟨⟨n, i, s⟩, q⟩, hF⟩ : ∃ z, F ((k : Int) + 1) = z := ⟨_, rfl⟩
      rw [hF] at c1 c2 c3 c4 HS
      have HR : Hid (wr.rangeAt r (1 + (k + 1) * 4) [.int .i64 n, .int .i64 i, .int .i64 s, .int .i64 q]) := fun j v hv => by
        match j, hv with
        | 0, hv => simp at hv; subst hv; exact c1
        | 1, hv => simp at hv; subst hv; exact c2
        | 2, hv => simp at hv; subst hv; exact c3
        | 3, hv => simp at hv; subst hv; exact c4
      simp only at c1 c2 c3 c4 HS
      generalize lfN F k = L at *
      clear ho hF HB c1 c2 c3
      by_cases hq : 0 < q
      · have hqi : q > 0 := hq
        rw [if_pos hq] at HS
        go_wp2_with (first
          | (refine wpList_load_mid rfl 48 _ rfl r (1 + (k + 1) * 4) rfl [.int .i64 n, .int .i64 i, .int .i64 s, .int .i64 q] _ HR.out hum rfl infoRu ?_)
          | (refine wl_app1M lyR 48 36 _ 32 undRs infoRu3 rfl (by decide) rfl _ _ rfl L.length L rfl ((n, i, s), q) u3 rfl HBH.out HO.out wr.heap.size rfl rfl (by omega) ?_ _ rfl rfl; intro a' c' w2 g1 g2 g3))
        have z1 : w2.ownsRow W.heap.size 48 4 (.slice a' (L.length + 1) c') (lfN F (k + 1)).length (flG lyR (lfN F (k + 1))) := by
          rw [HS.out, List.length_append]; exact g1
        have Z1 := hidP z1
        have G2 := hidP g2
        clear z1 g1 g2 g3
        go_roundw
        case rel => exact ⟨k + 1, by omega, by go_num, G2.out, Z1.out⟩
        case measure => simp [intOf]; omega
      · have hqi : ¬ (q > 0) := hq
        rw [if_neg hq, List.append_nil] at HS
        go_wp2_with fail
        go_roundw
        case rel => exact ⟨k + 1, by omega, by go_num, HBH.out, by rw [HS.out]; exact HO.out⟩
        case measure => simp [intOf]; omega
    · obtain rfl : k = 6 := by omega
      rw [lfN_all] at ho
      obtain ⟨a', c', rfl, h4⟩ := owns_rs lyR ho
      have HQ : Hid (RS lyR wr a' (HU.lf F) ∧ Bl W wr) := ⟨h4, HB⟩
      clear ho h4 HB HX
      go_wp2_with fail
      go_ret
      exact ⟨a', c', rfl, HQ.out⟩
end Go.Proofs.Ytpgagddofifikaa
