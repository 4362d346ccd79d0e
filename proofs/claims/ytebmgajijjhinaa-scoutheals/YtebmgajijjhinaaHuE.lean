/- slices.DeleteFunc at a row of rumours of one's own. -/
import Derived.Test.YtebmgajijjhinaaHuD
namespace Go.Proofs.Ytebmgajijjhinaa
open Go.RowKit Go.Maps
set_option linter.unusedVariables false
set_option linter.unusedSimpArgs false

/-- what is to be told yet -/
def kp (l : List HU.Ru) : List HU.Ru := l.filter (fun r => !decide (r.2 < 1))
theorem kp_no {l : List HU.Ru} {j : Nat} {r : HU.Ru} (h : l[j]? = some r) (hr : decide (r.2 < 1) = true) : kp (l.take (j + 1)) = kp (l.take j) := by
  unfold kp; rw [List.take_add_one, h, Option.toList_some, List.filter_append]; simp [hr]
theorem kp_yes {l : List HU.Ru} {j : Nat} {r : HU.Ru} (h : l[j]? = some r) (hr : decide (r.2 < 1) = false) : kp (l.take (j + 1)) = kp (l.take j) ++ [r] := by
  unfold kp; rw [List.take_add_one, h, Option.toList_some, List.filter_append]; simp [hr]
theorem kp_all {l : List HU.Ru} (h : ∀ r ∈ l, decide (r.2 < 1) = false) : kp l = l := by
  unfold kp; rw [List.filter_eq_self]; intro r hr; rw [h r hr]; rfl
/-- the row in the middle of the deleting -/
structure DI (l : List HU.Ru) (i j : Nat) (d : List HU.Ru) : Prop where
  len : d.length = l.length
  lt : i < j
  le : j ≤ l.length
  tk : d.take i = kp (l.take j)
  dr : d.drop j = l.drop j
theorem DI.start {l : List HU.Ru} {k : Nat} {r : HU.Ru} (hk : l[k]? = some r) (hr : decide (r.2 < 1) = true) (h : ∀ (i : Nat) x, i < k → l[i]? = some x → decide (x.2 < 1) = false) : DI l k (k + 1) l := by
  have hkl := (List.getElem?_eq_some_iff.1 hk).1
  refine ⟨rfl, by omega, by omega, ?_, rfl⟩
  rw [kp_no hk hr, kp_all]
  intro x hx
  obtain ⟨i, hi⟩ := List.mem_iff_getElem?.1 hx
  rw [List.getElem?_take] at hi
  split at hi
  · rename_i h2; exact h i x h2 hi
  · cases hi
theorem DI.at' {l d : List HU.Ru} {i j : Nat} (h : DI l i j d) {r : HU.Ru} (hr : l[j]? = some r) : d[j]? = some r := by
  have e1 : (d.drop j)[0]? = (l.drop j)[0]? := by rw [h.dr]
  rw [List.getElem?_drop, List.getElem?_drop, Nat.add_zero] at e1
  rw [e1]; exact hr
theorem DI.skip {l d : List HU.Ru} {i j : Nat} (h : DI l i j d) {r : HU.Ru} (hr : l[j]? = some r) (hp : decide (r.2 < 1) = true) : DI l i (j + 1) d := by
  have hj := (List.getElem?_eq_some_iff.1 hr).1
  have hl := h.lt
  refine ⟨h.len, by omega, by omega, by rw [kp_no hr hp]; exact h.tk, ?_⟩
  have := congrArg (List.drop 1) h.dr
  rwa [List.drop_drop, List.drop_drop] at this
theorem DI.keep {l d : List HU.Ru} {i j : Nat} (h : DI l i j d) {r : HU.Ru} (hr : l[j]? = some r) (hp : decide (r.2 < 1) = false) : DI l (i + 1) (j + 1) (d.set i r) := by
  have hj := (List.getElem?_eq_some_iff.1 hr).1
  have hl := h.lt
  have hlen := h.len
  refine ⟨by rw [List.length_set]; exact hlen, by omega, by omega, ?_, ?_⟩
  · rw [kp_yes hr hp, ← h.tk, List.take_add_one, List.take_set_of_le (Nat.le_refl _), List.getElem?_set_self (by omega)]; rfl
  · rw [List.drop_set_of_lt (by omega)]
    have := congrArg (List.drop 1) h.dr
    rwa [List.drop_drop, List.drop_drop] at this
theorem DI.end {l d : List HU.Ru} {i : Nat} (h : DI l i l.length d) : d.take i = kp l ∧ i = (kp l).length := by
  have e := h.tk
  rw [List.take_length] at e
  refine ⟨e, ?_⟩
  rw [← e, List.length_take, h.len, Nat.min_eq_left (Nat.le_of_lt h.lt)]
theorem undRs : Try.prog.underlying 113 = some (.slice 115) := Try.underlying113
theorem hidP {p : Prop} (h : p) : Hid p := h
def fnTold : Value := .func (.func 61) #[] #[]
theorem zeroRu : ∀ w, (zeroValue 115).run Try.prog w = .ok (.agg #[.int .i64 0, .int .i64 0, .int .i64 0, .int .i64 0]) w := Try.zeroValue115
set_option maxRecDepth 8000 in
set_option maxHeartbeats 4000000 in
theorem DeleteR {N n : Nat} {v : Value} {l : List HU.Ru} {W : World} (hn : n = l.length) (hown : W.ownsRow N 115 4 v n (flG lyR l)) (hl : l.length ≤ 1000) (hN : N ≤ W.heap.size) :
    Calls Try.prog 60 #[v, .func (.func 61) #[] #[]] W fun e w' => ∃ v', e = .returned v' ∧ w'.ownsRow N 115 4 v' (kp l).length (flG lyR (kp l)) ∧ W.grownBy w' v.ownBlock ∧ v'.ownBlock = v.ownBlock := by
  subst hn
  obtain ⟨a, c, rfl, hRS⟩ := owns_rs lyR hown
  have eg : ∀ args w, (callFunc 61 args).run Try.prog w = .ok (.enter 61 args) w := enters_of Try.func61 (by kernel_rfl) rfl
  have CI : Hid (Calls Try.prog 70 #[.slice a l.length c, .func (.func 61) #[] #[]] W fun e w' => e = .returned (.int .i64 (idxR (fun r => decide (r.2 < 1)) l)) ∧ Bl W w') := IndexR_c _ #[] _ l a _ c rfl (Bl.refl W) eg hRS (by omega) (fun W' t _ => isTold_x t W')
  rcases idxR_cases (fun r : HU.Ru => decide (r.2 < 1)) l with ⟨hi, hall⟩ | ⟨k, r, hi, hk, hr, hpre⟩
  · rw [hi] at CI
    have HQ : Hid (∀ w', Bl W w' → w'.ownsRow N 115 4 (.slice a l.length c) (kp l).length (flG lyR (kp l)) ∧ W.grownBy w' (Value.slice a l.length c).ownBlock) := fun w' hb => by
      rw [kp_all hall]
      exact ⟨ownsRow_bl hown hb, grown_bl hb _⟩
    clear hown hRS hi hall
    go_enter Try.func60, Try.ntmps60
    go_wp2_with (go_at_call 70; refine CI.out.mono ?_; rintro e w' ⟨rfl, hb⟩)
    go_ret
    exact ⟨_, rfl, (HQ.out _ hb).1, (HQ.out _ hb).2, rfl⟩
  · rw [hi] at CI
    have hkl := (List.getElem?_eq_some_iff.1 hk).1
    obtain ⟨g, rfl⟩ : ∃ g, a = some ⟨g, 0, none⟩ := by
      obtain ⟨_, ⟨h1, h2⟩ | ⟨g', cap', cur, h1, _⟩⟩ := hown
      · omega
      · simp only [Value.slice.injEq] at h1
        exact ⟨g', h1.1⟩
    have HD0 : Hid (DI l k (k + 1) l) := DI.start hk hr hpre
    have HO0 : Hid (W.ownsRow N 115 4 (.slice (some ⟨g, 0, none⟩) l.length c) l.length (flG lyR l)) := hown
    have hcl : l.length ≤ c := by
      obtain ⟨_, ⟨h1, h2⟩ | ⟨g', cap', cur, h1, _, _, h4, _⟩⟩ := hown
      · cases h1
      · simp only [Value.slice.injEq] at h1
        rw [h1.2.2]; exact h4
    have hne1 : ((k : Int) == -1) = false := beq_eq_false_iff_ne.2 (by omega)
    obtain ⟨fs, hum⟩ := undRu
    clear hown hRS hi hk hr hpre
    go_enter Try.func60, Try.ntmps60
    go_wp2_with (go_at_call 70; refine CI.out.mono ?_; rintro e w1 ⟨rfl, hb1⟩)
    have HO1 : Hid (w1.ownsRow N 115 4 (.slice (some ⟨g, 0, none⟩) l.length c) l.length (flG lyR l) ∧ W.grownBy w1 (some g)) := ⟨ownsRow_bl HO0.out hb1, grown_bl hb1 _⟩
    clear HO0 hb1 CI
    go_loopw [5, 6, 7] (fun u5 u6 _ wr => ∃ (i j : Nat) (d : List HU.Ru), u5 = .int .i64 i ∧ u6 = .int .i64 j ∧ DI l i j d ∧ wr.ownsRow N 115 4 (.slice (some ⟨g, 0, none⟩) l.length c) l.length (flG lyR d) ∧ W.grownBy wr (some g)) (fun _ u6 _ _ => l.length - (intOf u6).toNat)
    case atStart => exact ⟨k, k + 1, l, rfl, by go_num, HD0.out, HO1.out.1, HO1.out.2⟩
    case round =>
      obtain ⟨i, j, d, rfl, rfl, hd, ho, hg⟩ := hrel
      clear HD0 HO1
      have hij := hd.lt
      have hjl := hd.le
      have hdl := hd.len
      have hil : (i : Int) < (l.length : Int) := by omega
      by_cases hlt : j < l.length
      · obtain ⟨r, hr⟩ : ∃ r, l[j]? = some r := ⟨l[j], List.getElem?_eq_getElem hlt⟩
        obtain ⟨a', c', ha', hrs⟩ := owns_rs lyR (ks := d) (by rw [hdl]; exact ho)
        obtain ⟨b', off', e', _, hrg⟩ := hrs j r (hd.at' hr)
        rw [e'] at ha'
        obtain ⟨rfl, rfl⟩ : g = b' ∧ 0 = off' := by simpa using (Value.slice.inj ha').1
        clear ha' e' hrs
        have HR : Hid (wr.rangeAt g (j * 4) (lyR.f r)) := by rw [show j * 4 = 0 + j * lyR.k from (Nat.zero_add _).symm]; exact hrg
        have HBX : Hid (∀ w2, Bl (wr.alloc (.cells (lyR.f r).toArray 115)) w2 → w2.rangeAt wr.heap.size 0 (lyR.f r)) := fun w2 hb => range4 hb.box
        have C1 : Hid (Calls Try.prog 61 #[.agg (lyR.f r).toArray] (wr.alloc (.cells (lyR.f r).toArray 115)) fun e w' => e = .returned (.bool (decide (r.2 < 1))) ∧ Bl (wr.alloc (.cells (lyR.f r).toArray 115)) w') := isTold_x r _
        have HOW : Hid (∀ w2, Bl (wr.alloc (.cells (lyR.f r).toArray 115)) w2 → w2.ownsRow N 115 4 (.slice (some ⟨g, 0, none⟩) l.length c) l.length (flG lyR d) ∧ W.grownBy w2 (some g)) := fun w2 hb => ⟨ownsRow_bl (ownsRow_bl ho ((Bl.refl _).alloc _)) hb, hg.trans (grown_bl (Bl.step ((Bl.refl _).alloc _) hb) _)⟩
        have HD : Hid (DI l i j d) := hd
        have HR2 : Hid (l[j]? = some r) := hr
        clear hrg ho hg hd hr
        cases hq : decide (r.2 < 1) with
        | true =>
          rw [hq] at C1
          have HD2 : Hid (DI l i (j + 1) d) := HD.out.skip HR2.out hq
          clear hq HD HR2
          obtain ⟨⟨n, i2, s⟩, q⟩ := r
          unfold lyR at C1 HR HBX
          simp only at C1 HR HBX
          go_wp2_with (first
            | (refine wpList_load_mid rfl 115 _ rfl g (j * 4) rfl [.int .i64 n, .int .i64 i2, .int .i64 s, .int .i64 q] _ HR.out hum rfl infoRu ?_; clear HR)
            | (go_at_fn 61; refine (C1.out).mono ?_; clear C1; rintro e w2 ⟨rfl, hb2⟩))
          go_roundw
          case rel => exact ⟨i, j + 1, d, rfl, by go_num, HD2.out, (HOW.out _ hb2).1, (HOW.out _ hb2).2⟩
          case measure => simp [intOf]; omega
        | false =>
          rw [hq] at C1
          have HD2 : Hid (DI l (i + 1) (j + 1) (d.set i r)) := HD.out.keep HR2.out hq
          have HST : Hid (∀ w2, Bl (wr.alloc (.cells (lyR.f r).toArray 115)) w2 → w2.there g (i * 4) 4 ∧ (w2.setCells g (i * 4) (lyR.f r)).ownsRow N 115 4 (.slice (some ⟨g, 0, none⟩) l.length c) l.length (flG lyR (d.set i r)) ∧ W.grownBy (w2.setCells g (i * 4) (lyR.f r)) (some g)) := fun w2 hb => by
            obtain ⟨h1, h2⟩ := HOW.out w2 hb
            exact ⟨owns_there lyR h1 (i := i) (o := 0) (m := 4) (by show i * 4 + 0 + 4 ≤ l.length * 4; omega), own_setG lyR hdl.symm h1 (by omega) r, h2.trans (grown_setCells _ _ _ _)⟩
          clear hq HD HR2 HOW
          obtain ⟨⟨n, i2, s⟩, q⟩ := r
          unfold lyR at C1 HR HBX HST
          simp only at C1 HR HBX HST
          go_wp2_with (first
            | (refine wpList_load_mid rfl 115 _ rfl g (j * 4) rfl [.int .i64 n, .int .i64 i2, .int .i64 s, .int .i64 q] _ HR.out hum rfl infoRu ?_; clear HR)
            | (go_at_fn 61; refine (C1.out).mono ?_; clear C1; rintro e w2 ⟨rfl, hb2⟩; have HB2 := HBX.out _ hb2; obtain ⟨t2, o2, g2⟩ := HST.out _ hb2; clear HST HBX; obtain ⟨w3, hw3⟩ : ∃ w3, w2.setCells g (i * 4) [.int .i64 n, .int .i64 i2, .int .i64 s, .int .i64 q] = w3 := ⟨_, rfl⟩; have HW3 : Hid (w2.setCells g (i * 4) [.int .i64 n, .int .i64 i2, .int .i64 s, .int .i64 q] = w3) := hw3; rw [hw3] at o2 g2; clear hw3; have O2 := hidP o2; have G2 := hidP g2; have T2 := hidP t2; clear o2 g2 t2)
            | (refine wpList_load_mid rfl 115 _ rfl wr.heap.size 0 rfl [.int .i64 n, .int .i64 i2, .int .i64 s, .int .i64 q] _ HB2 hum rfl infoRu ?_; clear HB2)
            | (refine wl_storeTo rfl 115 _ _ rfl g (i * 4) [.int .i64 n, .int .i64 i2, .int .i64 s, .int .i64 q] rfl rfl T2.out infoRu (lyR.one ((n, i2, s), q)) w3 HW3.out ?_))
          go_roundw
          case rel => exact ⟨i + 1, j + 1, _, by go_num, by go_num, HD2.out, O2.out, G2.out⟩
          case measure => simp [intOf]; omega
      · obtain rfl : j = l.length := by omega
        obtain ⟨e1, e2⟩ := hd.end
        obtain ⟨vs, hcl2⟩ := run_clearG lyR hdl.symm ho undRs zeroRu rfl (fun v hv => by simp [Value.cells] at hv; subst hv; rfl) (i := i) hij 0 (c - i)
        have HE : Hid ((wr.setCells g (i * 4) vs).ownsRow N 115 4 (.slice (some ⟨g, 0, none⟩) i c) (kp l).length (flG lyR (kp l)) ∧ W.grownBy (wr.setCells g (i * 4) vs) (some g)) := by
          have h3 := own_cut lyR hdl.symm ho (i := i) (by omega) vs
          rw [e1] at h3
          exact ⟨by rw [← e2]; exact h3, hg.trans (grown_setCells _ _ _ _)⟩
        have hcl3 : ∀ ty, (Builtin.clear_ #[113] ty #[.slice (some ⟨g, i * 4, none⟩) (l.length - i) (c - i)]).run Try.prog wr = .ok (.tuple #[]) (wr.setCells g (i * 4) vs) := fun ty => hcl2
        clear hcl2 ho hg hd e1 e2
        go_wp2_with fail
        go_ret
        exact ⟨_, rfl, HE.out.1, HE.out.2, rfl⟩
end Go.Proofs.Ytebmgajijjhinaa
