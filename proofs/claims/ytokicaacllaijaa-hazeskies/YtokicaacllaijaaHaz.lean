/- Lists of numbers compared; a slice literal; the laws' own awake. -/
import Derived.Test.YtokicaacllaijaaHzA
import Derived.Test.YtokicaacllaijaaHz4
import Derived.Test.YtokicaacllaijaaHz5
import Derived.Great.BuildSlice
namespace Go.Proofs.Ytokicaacllaijaa
open Go.RowKit
set_option linter.unusedVariables false
set_option linter.unusedSimpArgs false
attribute [local go_sem ↓] zeroH zeroD

set_option maxRecDepth 8000 in
set_option maxHeartbeats 1000000 in
theorem Ints_x (l1 l2 : List Int) (a1 a2 : Option Addr) (c1 c2 : Nat) (w : World) (h1 : RS lyI w a1 l1) (h2 : RS lyI w a2 l2) (hn1 : l1.length ≤ maxLen) (hn2 : l2.length ≤ maxLen) :
    Calls Try.prog 24 #[.slice a1 l1.length c1, .slice a2 l2.length c2] w fun e w' => e = .returned (.bool (decide (l1 = l2))) ∧ ∃ n, w' = w.drewN n := by
  have H1 : Hid (RS lyI w a1 l1) := h1
  have H2 : Hid (RS lyI w a2 l2) := h2
  clear h1 h2
  unfold maxLen at hn1 hn2
  by_cases hln : l1.length = l2.length
  · have hq : ((l1.length : Int) != (l2.length : Int)) = false := by simp [hln]
    have HLN : Hid (l1.length = l2.length) := hln
    clear hln
    go_enter Try.func24, Try.ntmps24
    go_wp2_with fail
    go_loopw [5] (fun u5 wr => ∃ k : Nat, k ≤ l1.length ∧ u5 = .int .i64 k ∧ (∀ i, i < k → l1[i]? = l2[i]?) ∧ ∃ n, wr = w.drewN n) (fun u5 _ => l1.length - (intOf u5).toNat)
    case atStart => exact ⟨0, Nat.zero_le _, rfl, fun i hi => by omega, 0, rfl⟩
    case round =>
      obtain ⟨k, hk, rfl, hsame, n, rfl⟩ := hrel
      have HS : Hid (∀ i, i < k → l1[i]? = l2[i]?) := hsame
      clear hsame
      by_cases hlt : k < l1.length
      · obtain ⟨t1, ht1⟩ : ∃ t, l1[k]? = some t := ⟨l1[k], List.getElem?_eq_getElem hlt⟩
        have hlt2 : k < l2.length := by rw [← HLN.out]; exact hlt
        obtain ⟨t2, ht2⟩ : ∃ t, l2[k]? = some t := ⟨l2[k], List.getElem?_eq_getElem hlt2⟩
        obtain ⟨b1, o1, rfl, _, g1'⟩ := H1.out k t1 ht1
        obtain ⟨b2, o2, rfl, _, g2'⟩ := H2.out k t2 ht2
        have g1 : w.cell? ⟨b1, o1 + k, none⟩ = some (.int .i64 t1) := by have := g1' 0 _ rfl; simpa [lyI] using this
        have g2 : w.cell? ⟨b2, o2 + k, none⟩ = some (.int .i64 t2) := by have := g2' 0 _ rfl; simpa [lyI] using this
        clear g1' g2'
        have HT1 : Hid (l1[k]? = some t1) := ht1
        have HT2 : Hid (l2[k]? = some t2) := ht2
        clear ht1 ht2
        by_cases hq2 : t1 = t2
        · have hbq : (t1 != t2) = false := by rw [hq2]; simp
          have HQ : Hid (t1 = t2) := hq2
          clear hq2
          go_wp2_with fail
          go_quiet (fail)
          go_wp2_with fail
          go_roundw
          case rel =>
            refine ⟨k + 1, by omega, by go_num, ?_, _, rfl⟩
            intro i hi
            by_cases hik : i = k
            · subst hik; rw [HT1.out, HT2.out, HQ.out]
            · exact HS.out i (by omega)
          case measure => simp [intOf]; omega
        · have hbq : (t1 != t2) = true := by rw [bne_iff_ne]; omega
          have HQ : Hid (¬ t1 = t2) := hq2
          clear hq2
          go_wp2_with fail
          go_quiet (fail)
          go_wp2_with fail
          go_ret
          refine ⟨?_, _, World.drewN_drewN ..⟩
          have hne : l1 ≠ l2 := by
            intro e
            apply HQ.out
            have h := HT1.out
            rw [e, HT2.out] at h
            exact (Option.some.inj h).symm
          rw [decide_eq_false hne]
          rfl
      · obtain rfl : k = l1.length := by omega
        go_wp2_with fail
        go_ret
        refine ⟨?_, n, rfl⟩
        have he : l1 = l2 := by
          apply List.ext_getElem?
          intro i
          by_cases hi : i < l1.length
          · exact HS.out i hi
          · rw [List.getElem?_eq_none (by omega), List.getElem?_eq_none (by rw [← HLN.out]; omega)]
        rw [decide_eq_true he]
        rfl
  · have hq : ((l1.length : Int) != (l2.length : Int)) = true := by rw [bne_iff_ne]; omega
    have hne : l1 ≠ l2 := fun e => hln (by rw [e])
    rw [decide_eq_false hne]
    clear hln hne
    go_enter Try.func24, Try.ntmps24
    go_wp2_with fail
    go_ret
    exact ⟨rfl, 0, rfl⟩
theorem foldF (L : List Value) : ∀ (Z : Array Value) (off k : Nat), off + k + L.length ≤ Z.size → (L.zipIdx k).foldl (fun (cs : Array Value) (x : Value × Nat) => cs.setIfInBounds (off + x.2) x.1) Z = (Z.toList.take (off + k) ++ L ++ Z.toList.drop (off + k + L.length)).toArray := by
  induction L with
  | nil => intro Z off k h; simp
  | cons x L ih =>
    intro Z off k h
    rw [List.zipIdx_cons, List.foldl_cons, ih _ _ _ (by simp at h ⊢; omega)]
    congr 1
    simp only [List.length_cons] at h
    have hk : off + k < Z.toList.length := by simp; omega
    have e : off + (k + 1) = off + k + 1 := by omega
    rw [e, Array.toList_setIfInBounds, List.take_add_one, List.getElem?_set_self hk, List.take_set_of_le (Nat.le_refl _), List.drop_set_of_lt (by omega)]
    simp only [List.length_cons, Option.toList_some, List.append_assoc, List.cons_append, List.nil_append]
    rw [show off + k + 1 + L.length = off + k + (L.length + 1) by omega]
theorem fill_all (place : Nat → Option (Nat × Nat)) (Z : Array Value) (v : Value) (L : List Value) (hv : v.cells = L.toArray) (hp : place 0 = some (0, L.length)) (hZ : Z.size = L.length) : Instr.fill place Z [(0, v)] = some L.toArray := by
  rw [Instr.fill, hp]
  simp only [hv, List.size_toArray]
  rw [if_neg (by simp [hZ])]
  have := foldF L Z 0 0 (by omega)
  simp only [Nat.add_zero, Nat.zero_add] at this ⊢
  rw [show L.toArray.zipIdx = (L.zipIdx 0).toArray by simp]
  rw [List.foldl_toArray]
  simp only [Instr.fill]
  rw [this]
  simp [hZ]
/-- a slice literal of one struct -/
theorem wl_bs1 {ops : Array Oper} {rest : List Oper} {o : Oper} {a : Act} {w : World} {Q : Exit → Act → World → Prop} (hg : o.guard = none) (TS T : TypeId) (x : Operand) (ho : o.op = .buildSlice TS 1 #[(0, x)]) (L : List Value) (n bytes : Nat) (z : Value) (hu : Try.prog.underlying TS = some (.slice T)) (hi : (Try.prog.info? T).map (fun i => (i.zero, i.size, i.bytes)) = some (some z, n, bytes)) (hn : L.length = n) (h0 : 0 < n) (h1 : n ≤ 16777216) (hx : a.eval x = .agg L.toArray)
    (h : wpList Try.prog ops Q rest (a.put o.dst (.slice (some ⟨w.heap.size, 0, none⟩) 1 1)) (w.alloc (.cells L.toArray T))) : wpList Try.prog ops Q (o :: rest) a w := by
  obtain ⟨i, hi0, hz, hs, hb⟩ := info_partsT hi
  refine wpList_buildSlice hg TS T 1 #[(0, x)] ho L.toArray i z hu hi0 hz (by rw [hs]; omega) (by rw [hs]; omega) ?_ h
  have hp : ((#[(0, x)] : Array (Nat × Operand)).map fun (i, x) => (i, a.eval x)).toList = [(0, .agg L.toArray)] := by simp [hx]
  rw [hp, hs]
  exact fill_all _ _ _ L rfl (by simp [hn]) (by simp [hn])
def k8 : HZ.D := ⟨[0, 1, 0, 1, 0, 1, 2, 0, 0, 0, 0, 0, 0, 0, 0, 0, 0, 0, 0, 0, 0, 0, 0, 0, 0, 0, 0, 0, 0, 0, 0, 0], rfl⟩
def h3 : HZ.H := ⟨3 :: List.replicate 63 0, by simp⟩
def h1 : HZ.H := ⟨1 :: List.replicate 63 0, by simp⟩
theorem wi_k8 : HZ.zero.wi [k8] = h3 := HZ.eqB_iff.1 (by decide +kernel)
theorem ct_h3 : h3.ct = 2 := by decide +kernel
theorem hs_h3 : h3.hs k8 = true := by decide +kernel
theorem hs_h1 : h1.hs k8 = false := by decide +kernel
theorem may_45 : mayN (sk0.put 3 h3 5) k8 45 7 = [3] := by decide +kernel
theorem may_46 : mayN (sk0.put 3 h3 5) k8 46 7 = [] := by decide +kernel
theorem may_4 : mayN (sk0.put 3 h3 5) k8 4 7 = [] := by decide +kernel
theorem built_k8 : Try.prog.built tD [(0, .int .u8 0), (1, .int .u8 1), (2, .int .u8 0), (3, .int .u8 1), (4, .int .u8 0), (5, .int .u8 1), (6, .int .u8 2), (7, .int .u8 0)] = some (dC k8).toArray := by kernel_rfl
theorem built_h3 : Try.prog.built tH [(0, .int .u8 3)] = some (hC h3).toArray := by kernel_rfl
theorem set_h1 : zH.setIfInBounds 0 (.int .u8 1) = (hC h1).toArray := by kernel_rfl
theorem undDs : Try.prog.underlying 23 = some (.slice tD) := Try.underlying23
theorem undHs : Try.prog.underlying 22 = some (.slice tH) := Try.underlying22
set_option maxRecDepth 8000 in
set_option maxHeartbeats 4000000 in
theorem awake_14 (W : World) : Calls Try.prog 9 #[] W fun e w' => e = .returned (.bool true) ∧ Bl W w' := by
  have CO : Hid (∀ U, Calls Try.prog 14 #[.slice (some ⟨U.heap.size, 0, none⟩) 1 1] (U.alloc (.cells (dC k8).toArray tD)) fun e w' => e = .returned (.agg (hC h3).toArray) ∧ Bl U w') := fun U => by
    have := Of_x [k8] (some ⟨U.heap.size, 0, none⟩) 1 (by unfold maxLen; simp) _ (RS.one lyD U tD k8)
    rw [wi_k8] at this
    exact this.mono fun e w' ⟨g1, g2⟩ => ⟨g1, g2.up⟩
  have CN : Hid (∀ U, Calls Try.prog 19 #[] U fun e w' => e = .returned (.pointer (some ⟨U.heap.size, 0, none⟩)) ∧ SKY U U.heap.size sk0 w') := New_x
  have CP : Hid (∀ V p U, SKY V p sk0 U → Calls Try.prog 20 #[.pointer (some ⟨p, 0, none⟩), .int .i64 3, .agg (hC h3).toArray, .int .i64 5] U fun e w' => e = .returned (.tuple #[]) ∧ SKY V p (sk0.put 3 h3 5) w') := fun V p U x => Put_yes x 3 (by omega) (by omega) 5 (by decide) h3
  have HT : ∀ j h t, sk0.put 3 h3 5 j = some (h, t) → isT t = true := fun j h t e => by
    unfold SkF.put sk0 at e
    split at e
    · simp only [Option.some.injEq, Prod.mk.injEq] at e; rw [← e.2]; decide
    · cases e
  have CM1 : Hid (∀ V p U, SKY V p (sk0.put 3 h3 5) U → Calls Try.prog 25 #[.pointer (some ⟨p, 0, none⟩), .agg (dC k8).toArray, .int .i64 45] U fun e w' => ∃ a c, e = .returned (.slice a 1 c) ∧ RS lyI w' a [3] ∧ SKY V p (sk0.put 3 h3 5) w') := fun V p U x => by
    have := May_x x k8 45 (by constructor <;> omega) HT
    rw [may_45] at this
    exact this.mono fun e w' ⟨a, c, g1, g2, g3⟩ => ⟨a, c, g1, g2, x.grow g3⟩
  have CM2 : Hid (∀ V p U, SKY V p (sk0.put 3 h3 5) U → Calls Try.prog 25 #[.pointer (some ⟨p, 0, none⟩), .agg (dC k8).toArray, .int .i64 46] U fun e w' => ∃ a c, e = .returned (.slice a 0 c) ∧ SKY V p (sk0.put 3 h3 5) w') := fun V p U x => by
    have := May_x x k8 46 (by constructor <;> omega) HT
    rw [may_46] at this
    exact this.mono fun e w' ⟨a, c, g1, g2, g3⟩ => ⟨a, c, g1, x.grow g3⟩
  have CM3 : Hid (∀ V p U, SKY V p (sk0.put 3 h3 5) U → Calls Try.prog 25 #[.pointer (some ⟨p, 0, none⟩), .agg (dC k8).toArray, .int .i64 4] U fun e w' => ∃ a c, e = .returned (.slice a 0 c) ∧ SKY V p (sk0.put 3 h3 5) w') := fun V p U x => by
    have := May_x x k8 4 (by constructor <;> omega) HT
    rw [may_4] at this
    exact this.mono fun e w' ⟨a, c, g1, g2, g3⟩ => ⟨a, c, g1, x.grow g3⟩
  have CC : Hid (∀ V p f U, SKY V p f U → Calls Try.prog 17 #[.agg (hC h3).toArray] U fun e w' => e = .returned (.int .i64 2) ∧ SKY V p f w') := fun V p f U x => by
    have := Count_x h3 U
    rw [ct_h3] at this
    exact this.mono fun e w' ⟨g1, g2⟩ => ⟨g1, x.grow g2⟩
  have CH3 : Hid (∀ V p f U, SKY V p f U → Calls Try.prog 15 #[.agg (hC h3).toArray, .agg (dC k8).toArray] U fun e w' => e = .returned (.bool true) ∧ SKY V p f w') := fun V p f U x => by
    have := Has_x h3 k8 U
    rw [hs_h3] at this
    exact this.mono fun e w' ⟨g1, g2⟩ => ⟨g1, x.grow g2⟩
  have CH1 : Hid (∀ V p f U, SKY V p f U → Calls Try.prog 15 #[.agg (zH.setIfInBounds 0 (.int .u8 1)), .agg (dC k8).toArray] U fun e w' => e = .returned (.bool false) ∧ SKY V p f w') := fun V p f U x => by
    have := Has_x h1 k8 U
    rw [hs_h1, ← set_h1] at this
    exact this.mono fun e w' ⟨g1, g2⟩ => ⟨g1, x.grow g2⟩
  have CI : Hid (∀ V p f U a c, SKY V p f U → RS lyI U a [3] → Calls Try.prog 24 #[.slice a 1 c, .slice (some ⟨U.heap.size, 0, none⟩) 1 1] (U.alloc (.cells #[.int .i64 3] 3)) fun e w' => e = .returned (.bool true) ∧ SKY V p f w') := fun V p f U a c x hr => by
    have := Ints_x [3] [3] a (some ⟨U.heap.size, 0, none⟩) c 1 _ (hr.bl ((Bl.refl U).alloc (.cells #[.int .i64 3] 3))) (RS.one lyI U 3 3) (by unfold maxLen; simp) (by unfold maxLen; simp)
    refine this.mono fun e w' ⟨g1, n, g2⟩ => ⟨by rw [g1]; rfl, ?_⟩
    rw [g2]; exact x.grow (((Bl.refl U).alloc _).drewN n)
  have heq : ∀ U, (Op.equalIn 10000 tH (.agg (hC h3).toArray) (.agg (hC h3).toArray)).run Try.prog U = .ok true U := fun U => by rw [eqH, HZ.eqB_self]
  have HBK := built_k8
  have HB3 := built_h3
  have HBK : Hid (Try.prog.built tD [(0, .int .u8 0), (1, .int .u8 1), (2, .int .u8 0), (3, .int .u8 1), (4, .int .u8 0), (5, .int .u8 1), (6, .int .u8 2), (7, .int .u8 0)] = some (dC k8).toArray) := HBK
  have HB3 : Hid (Try.prog.built tH [(0, .int .u8 3)] = some (hC h3).toArray) := HB3
  have HKL := dC_len k8
  have HHL := hC_len h3
  have HKO : Hid (∀ u ∈ dC k8, u.oneCell' = true) := dC_one k8
  have HHO : Hid (∀ u ∈ hC h3, u.oneCell' = true) := hC_one h3
  have HKI : Hid ((Try.prog.info? tD).map (·.size) = some (dC k8).length) := by show _ = _; rw [dC_len]; exact infoD
  have HHI : Hid ((Try.prog.info? tH).map (·.size) = some (hC h3).length) := by show _ = _; rw [hC_len]; exact infoH
  clear HT
  generalize dC k8 = LK at *
  generalize hC h3 = LH at *
  generalize sk0.put 3 h3 5 = f at *
  go_enter Try.func9, Try.ntmps9
  go_wp2_with (first
    | go_big_skip
    | (refine wl_build rfl tD _ rfl [(0, .int .u8 0), (1, .int .u8 1), (2, .int .u8 0), (3, .int .u8 1), (4, .int .u8 0), (5, .int .u8 1), (6, .int .u8 2), (7, .int .u8 0)] (by simp only [List.map_toArray, List.map_cons, List.map_nil]; rfl) LK.toArray HBK.out ?_)
    | (refine wl_rowU rfl tD _ _ rfl W.heap.size LK rfl rfl tD zD (heap_alloc_new W _) 32 infoD HKL zD_size HKO.out ?_; intro U0 hU0 hO0 hs0; have HU0 : Hid (Bl W U0) := hO0.bl ((Bl.refl W).alloc _) (Nat.le_refl _); have R0 := range_of hU0; have RU0 := hidI hU0; clear hU0 hO0 hs0)
    | (refine wl_midG (by rfl) tD _ rfl W.heap.size 0 rfl LK _ R0 undD rfl HKI.out ?_)
    | (refine wl_bs1 rfl 23 tD _ rfl LK 32 32 (.agg zD) undDs infoD3 HKL (by omega) (by omega) rfl ?_)
    | (go_at_call 14; refine (CO.out _).mono ?_; clear CO R0; rintro e w1 ⟨rfl, hb1⟩; have HW1 : Hid (Bl W w1) := HU0.out.step hb1; have RK1 := hidI (hb1.heap RU0.out); clear hb1 RU0 HU0)
    | (refine wl_rowU rfl tH _ _ rfl w1.heap.size LH rfl rfl tH zH (heap_alloc_new w1 _) 64 infoH HHL zH_size HHO.out ?_; intro U1 hU1 hO1 hs1; have hb1 : Bl w1 U1 := hO1.bl ((Bl.refl w1).alloc _) (Nat.le_refl _); have HW2 : Hid (Bl W U1) := HW1.out.step hb1; have RK := hidI (hb1.heap RK1.out); have RH := hidI hU1; clear hU1 hO1 hs1 hb1 RK1 HW1)
    | (go_at_call 19; refine (CN.out _).mono ?_; clear CN; rintro e w2 ⟨rfl, HS⟩; have R1 := range_of (HS.bl.heap RH.out))
    | (refine wl_midG (by rfl) tH _ rfl w1.heap.size 0 rfl LH _ R1 undH rfl HHI.out ?_)
    | (go_at_call 20; refine (CP.out _ _ _ HS).mono ?_; clear CP R1 HS; rintro e w3 ⟨rfl, HS⟩; have R1 := range_of (HS.bl.heap RH.out))
    | (refine wl_build rfl tH _ rfl [(0, .int .u8 3)] (by simp only [List.map_toArray, List.map_cons, List.map_nil]; rfl) LH.toArray HB3.out ?_)
    | (go_at_call 17; refine (CC.out _ _ _ _ HS).mono ?_; clear CC HB3 R1 HS; rintro e w4 ⟨rfl, HS⟩; have R1 := range_of (HS.bl.heap RH.out); have R0 := range_of (HS.bl.heap RK.out))
    | (go_at_call 15; refine (CH3.out _ _ _ _ HS).mono ?_; clear CH3 R1 R0 HS; rintro e w5 ⟨rfl, HS⟩; have R0 := range_of (HS.bl.heap RK.out))
    | (go_at_call 15; refine (CH1.out _ _ _ _ HS).mono ?_; clear CH1 R0 HS; rintro e w6 ⟨rfl, HS⟩; have R0 := range_of (HS.bl.heap RK.out))
    | (go_at_call 25; refine (CM1.out _ _ _ HS).mono ?_; clear CM1 R0 HS; rintro e w7 ⟨a1, c1, rfl, HR, HS⟩)
    | (go_at_call 24; refine (CI.out _ _ _ _ _ _ HS HR).mono ?_; clear CI HS HR; rintro e w8 ⟨rfl, HS⟩; have R0 := range_of (HS.bl.heap RK.out))
    | (go_at_call 25; refine (CM2.out _ _ _ HS).mono ?_; clear CM2 R0 HS; rintro e w9 ⟨a2, c2, rfl, HS⟩; have R0 := range_of (HS.bl.heap RK.out))
    | (go_at_call 25; refine (CM3.out _ _ _ HS).mono ?_; clear CM3 R0 HS; rintro e w10 ⟨a3, c3, rfl, HS⟩))
  go_ret
  exact ⟨rfl, HW2.out.step HS.bl⟩
end Go.Proofs.Ytokicaacllaijaa
