/- Tell. -/
import Derived.Test.YtebmgajijjhinaaSoU
import Derived.Deep.WholeRow
namespace Go.Proofs.Ytebmgajijjhinaa
open Go.RowKit Go.Maps
set_option linter.unusedVariables false
set_option linter.unusedSimpArgs false

attribute [local go_sem ↓] zero66
theorem info1a : (Try.prog.info? 3).map (·.size) = some 1 := by kernel_rfl
theorem info1b : (Try.prog.info? 46).map (·.size) = some 1 := by kernel_rfl
theorem info1c : (Try.prog.info? 41).map (·.size) = some 1 := by kernel_rfl
theorem info1d : (Try.prog.info? 44).map (·.size) = some 1 := by kernel_rfl
theorem info1e : (Try.prog.info? 45).map (·.size) = some 1 := by kernel_rfl
theorem cellL {U : World} {g i : Nat} {L : List Value} {t : TypeId} {v : Value} (h : U.heap[g]? = some (.cells L.toArray t (0, 0))) (hv : L[i]? = some v) : U.cell? ⟨g, i, none⟩ = some v := by rw [Lib.cell_of_heap h]; simpa using hv
theorem OS.of1n {B : Nat → Prop} {g : Nat} {W U U' : World} (h : OS B B W U) (o : Of1 g U U') (hg : W.heap.size ≤ g) : OS B B W U' :=
  ⟨o.os.trans h.os, o.tape.trans h.tape, o.output.trans h.output, Nat.le_trans h.size o.size, fun i hi hn => (o.block i (Nat.lt_of_lt_of_le hi h.size) (by omega)).trans (h.block i hi hn), fun i hi => Or.inl hi⟩
theorem chain_tell {w W wr U1 U2 U3 U4 U5 U6 : World} {p N : Nat} {B : Nat → Prop} {s : SO.Sc} {ra : Option Addr} {TD : List K.Me} (hww : w.heap.size ≤ wr.heap.size) (hos : OS B B W wr) (hb : Bl wr U1) (hlt : wr.heap.size < U1.heap.size) (t1 : RS lyM U2 ra TD) (t2 : ∃ P', S0 w p P' B N s U2) (t3 : OS B B U1 U2) (t4 : ∀ q off, ra = some ⟨q, off, none⟩ → U1.heap.size ≤ q ∧ q < U2.heap.size) (o3 : Of1 wr.heap.size U2 U3) (o4 : Of1 wr.heap.size U3 U4) (o5 : Of1 wr.heap.size U4 U5) (o6 : Of1 wr.heap.size U5 U6) (hnb : ¬ B wr.heap.size) :
    OS B B W U6 ∧ (∃ P', S0 w p P' B N s U6) ∧ wr.heap.size ≤ U6.heap.size ∧ (∀ i, i < wr.heap.size → ¬ B i → U6.heap[i]? = wr.heap[i]?) ∧ RS lyM U6 ra TD ∧ (∀ q off, ra = some ⟨q, off, none⟩ → wr.heap.size < q ∧ q < U6.heap.size) := by
  have o := o3.trans (o4.trans (o5.trans o6))
  have hs1 := hos.size
  have hs2 := t3.size
  have hs3 := o.size
  refine ⟨((hos.trans (OS.of_bl hb)).trans t3).of1n o hs1, ?_, by omega, fun i hi hn => ?_, fun i m hm => ?_, fun q off e => ?_⟩
  · obtain ⟨P', X⟩ := t2
    exact ⟨P', X.keep o.size (o.bl X.bl hww) (fun k hk => o.block k (X.Bo k hk).2 (fun e => hnb (e ▸ hk)))⟩
  · rw [o.block i (by omega) (by omega), t3.block i (by omega) hn]
    exact Below.block hb i hi
  · obtain ⟨b, off, e1, e2, e3⟩ := t1 i m hm
    have hq := t4 b off e1
    exact ⟨b, off, e1, by omega, fun j v hv => by rw [World.cell?_of_block (o.block b e2 (by omega))]; exact e3 j v hv⟩
  · have := t4 q off e; omega
theorem new_V {V wr : World} {C : Array Value} {t : TypeId} (hV : V = wr.alloc (.cells C t)) : V.heap[wr.heap.size]? = some (.cells C t (0, 0)) ∧ Bl wr V := by
  subst hV
  exact ⟨heap_alloc_new wr _, (Bl.refl wr).alloc _⟩
theorem Tell_nil (v : Value) (W : World) : Calls Try.prog 23 #[.pointer none, v] W fun e w' => e = .returned (.slice none 0 0) ∧ w' = W := by
  go_enter Try.func23, Try.ntmps23
  go_wp2_with fail
  go_ret
  exact ⟨rfl, rfl⟩
set_option maxRecDepth 8000 in
set_option maxHeartbeats 4000000 in
theorem Tell_x {w W : World} {p : Nat} {P : Pl} {B : Nat → Prop} {N : Nat} {s : SO.Sc} (x : S0 w p P B N s W) (l : List SO.Fr) (hl : l.length ≤ 1000) (a : Option Addr) (c : Nat) (hr : RS lyS W a (l.map bs0)) (ha : ∀ g off, a = some ⟨g, off, none⟩ → ¬ B g) :
    Calls Try.prog 23 #[.pointer (some ⟨p, 0, none⟩), .slice a l.length c] W fun e w' => ∃ a' c' ys, e = .returned (.slice a' l.length c') ∧ (∃ P', S0 w p P' B N (SO.tellS s l) w') ∧ OS B B W w' ∧ FRS w' (fun g => W.heap.size ≤ g) a' ys (SO.tellL s l) := by
  have H0 : Hid (TL w p B N s W l 0 (.slice none 0 0) W) := ⟨⟨P, x⟩, OS.refl B W, ⟨[], rfl, ⟨rfl, Or.inl ⟨rfl, rfl⟩⟩, fun i y f h => by simp at h⟩⟩
  have HR : Hid (∀ wr, OS B B W wr → RS lyS wr a (l.map bs0)) := fun wr o i y hy => by
    obtain ⟨b, off, e1, e2, e3⟩ := hr i y hy
    exact ⟨b, off, e1, Nat.lt_of_lt_of_le e2 o.size, fun j v hv => by rw [World.cell?_of_block (o.block b e2 (ha b off e1))]; exact e3 j v hv⟩
  have hme : ∀ k, (SO.tellS s (l.take k)).me = s.me := fun k => by
    have : ∀ (l : List SO.Fr) (s : SO.Sc), (SO.tellS s l).me = s.me := fun l => by
      induction l with
      | nil => intro s; rfl
      | cons y r ih => intro s; show (SO.tellS (SO.tell1 s y).1 r).me = _; rw [ih]; rfl
    exact this _ _
  have HME := hidI hme
  have HBS : Hid (∀ k, B k → k < W.heap.size) := fun k h => (x.Bo k h).2
  obtain ⟨fs, hum⟩ := undSn
  obtain ⟨z, hz1, hz2⟩ := infoSn3
  clear x hr ha hme
  go_enter Try.func23, Try.ntmps23
  go_wp2_with fail
  go_loopw [5, 7, 12] (fun u5 _ u12 wr => ∃ k : Nat, k ≤ l.length ∧ u12 = .int .i64 (k : Int) ∧ TL w p B N s W l k u5 wr) (fun _ _ u12 _ => l.length - (intOf u12).toNat)
  case atStart => exact ⟨0, by omega, rfl, H0.out⟩
  case round =>
    obtain ⟨k, hk, rfl, ht⟩ := hrel
    clear H0
    by_cases hlt : k < l.length
    · obtain ⟨f, hf⟩ : ∃ f, l[k]? = some f := ⟨l[k], List.getElem?_eq_getElem hlt⟩
      obtain ⟨b2, off, rfl, hb2, hrg⟩ := HR.out wr ht.os k (bs0 f) (by rw [List.getElem?_map, hf]; rfl)
      obtain ⟨P', X⟩ := ht.sc
      obtain ⟨ys, hyl, hown, heach⟩ := ht.ex
      have hos := ht.os
      have HS1 : Hid (SO.tellS s (l.take (k + 1)) = (SO.tell1 (SO.tellS s (l.take k)) f).1) := SO.tellS_take hf
      have HS2 : Hid (SO.tellL s (l.take (k + 1)) = SO.tellL s (l.take k) ++ [(SO.tell1 (SO.tellS s (l.take k)) f).2]) := SO.tellL_take hf
      have hll : (SO.tellL s (l.take k)).length = k := by rw [SO.tellL_len, List.length_take]; omega
      have hmk := HME.out k
      generalize hsk : SO.tellS s (l.take k) = sk at *
      generalize hLk : SO.tellL s (l.take k) = Lk at *
      clear hsk hLk ht hf
      have CT : Hid (∀ U, Bl wr U → Calls Try.prog 40 #[.pointer (some ⟨P'.h, 0, none⟩), .int .i64 6] U fun e w' => ∃ a c, e = .returned (.slice a (HU.told sk.F (HU.cnt sk.F 6)).length c) ∧ RS lyM w' a (HU.told sk.F (HU.cnt sk.F 6)) ∧ (∃ P', S0 w p P' B N (SO.tell1 sk f).1 w') ∧ OS B B U w' ∧ ∀ q off, a = some ⟨q, off, none⟩ → U.heap.size ≤ q ∧ q < w'.heap.size) := fun U hU => (X.grow hU).take
      have HC10 : Hid (∀ U, Bl wr U → U.cell? ⟨p, 10, none⟩ = some (.int .i64 s.me) ∧ U.cell? ⟨p, 1, none⟩ = some (.pointer (some ⟨P'.h, 0, none⟩))) := fun U hU => ⟨by rw [← hmk]; exact (X.grow hU).c10, (X.grow hU).c1⟩
      have HNB : Hid (¬ B wr.heap.size) := fun h => by have := HBS.out _ h; have := hos.size; omega
      obtain ⟨d, kd, fr, sq, nd, rm⟩ := f
      have HRG : Hid (wr.rangeAt b2 (off + k * 238) (snL d kd fr sq nd zM nilV)) := hrg
      have HN1 : Hid ((snL d kd fr sq nd zM nilV).set 2 (.int .i64 s.me) = snL d kd s.me sq nd zM nilV) := set_frm _ _ _ _ _ _ _ _
      have HN2 : Hid (∀ v, (snL d kd s.me sq nd zM nilV).set 237 v = snL d kd s.me sq nd zM v) := fun v => set_rum _ _ _ _ _ _ _
      have HN3 : Hid (∀ v j, j < 3 → (snL d kd s.me sq nd zM v).set (234 + j) (.slice none 0 0) = snL d kd s.me sq nd zM v) := fun v j hj => set_nil _ _ _ _ _ _ j hj
      have HG3 : Hid (∀ v j, j < 3 → (snL d kd s.me sq nd zM v)[234 + j]? = some (.slice none 0 0)) := fun v j hj => get_nil _ _ _ _ _ _ j hj
      have HLN : Hid (∀ m v, (snL d kd m sq nd zM v).length = 238) := fun m v => snL_len zM_len
      have HON : Hid (∀ v ∈ snL d kd fr sq nd zM nilV, v.oneCell' = true) := snL_one zM_one rfl
      -- what is appended
      have HFIN : Hid (∀ U w2 g c' ra rc, OS B B W U → Bl wr U ∨ True → (∃ P', S0 w p P' B N (SO.tell1 sk ⟨d, kd, fr, sq, nd, rm⟩).1 U) → wr.heap.size ≤ U.heap.size → (∀ i, i < wr.heap.size → ¬ B i → U.heap[i]? = wr.heap[i]?) → RS lyM U ra (HU.told sk.F (HU.cnt sk.F 6)) → (∀ q off, ra = some ⟨q, off, none⟩ → wr.heap.size < q ∧ q < U.heap.size) →
          w2.ownsRow W.heap.size tSn 238 (.slice (some ⟨g, 0, none⟩) (k + 1) c') (k + 1) (flG lyS (ys ++ [⟨d, kd, s.me, sq, nd, ra, (HU.told sk.F (HU.cnt sk.F 6)).length, rc⟩])) → U.grownBy w2 u5.ownBlock → (u5.ownBlock = some g ∨ U.heap.size ≤ g) → g < w2.heap.size → TL w p B N s W l (k + 1) (.slice (some ⟨g, 0, none⟩) (k + 1) c') w2) := fun U w2 g c' ra rc o1 _ ⟨P2, X2⟩ hsz hblk hrs hra ho hg hgg hlt2 => by
        have hge : ∀ q, u5.ownBlock = some q → W.heap.size ≤ q ∧ q < wr.heap.size := fun q e => owns_ge hown e
        have hnB : ∀ q, u5.ownBlock = some q → ¬ B q := fun q e hB => by have := HBS.out q hB; have := (hge q e).1; omega
        have hbk : ∀ i, i < U.heap.size → some i ≠ u5.ownBlock → w2.heap[i]? = U.heap[i]? := fun i hi hn => hg.block i hi hn
        have hkB : ∀ i, B i → w2.heap[i]? = U.heap[i]? := fun i hi => hbk i (X2.Bo i hi).2 (fun e => hnB i e.symm hi)
        have o2 : OS B B W w2 := ⟨hg.os.trans o1.os, hg.tape.trans o1.tape, hg.output.trans o1.output, Nat.le_trans o1.size hg.size, fun i hi hn => (hbk i (Nat.lt_of_lt_of_le hi o1.size) (fun e => by have := (hge i e.symm).1; omega)).trans (o1.block i hi hn), fun i h => Or.inl h⟩
        refine ⟨⟨P2, by rw [HS1.out]; exact X2.keep hg.size (⟨hg.os.trans X2.bl.os, hg.tape.trans X2.bl.tape, hg.output.trans X2.bl.output, Nat.le_trans X2.bl.size hg.size, fun i hi => (hbk i (Nat.lt_of_lt_of_le hi X2.bl.size) (fun e => by
          have h1 := (hge i e.symm).1
          have h2 := (X2.Bo p X2.Bp).1
          have h3 := HBS.out p X2.Bp
          omega)).trans (X2.bl.block i hi)⟩) hkB⟩, o2, ⟨_, ?_, ho, ?_⟩⟩
        · rw [List.length_append, hyl]; rfl
        · intro i y f h1 h2
          rw [HS2.out] at h2
          have hX : ∀ q, W.heap.size ≤ q ∧ some q ≠ u5.ownBlock → q < wr.heap.size → w2.heap[q]? = wr.heap[q]? ∧ (W.heap.size ≤ q ∧ some q ≠ (Value.slice (some ⟨g, 0, none⟩) (k + 1) c').ownBlock) := fun q hq hql => by
            refine ⟨(hbk q (by omega) hq.2).trans (hblk q hql (fun hB => by have := HBS.out q hB; omega)), hq.1, fun e => ?_⟩
            have e2 : q = g := Option.some.inj e
            subst e2
            rcases hgg with h | h
            · exact hq.2 h.symm
            · omega
          by_cases hik : i < k
          · rw [List.getElem?_append_left (by omega)] at h1
            rw [List.getElem?_append_left (by omega)] at h2
            exact (heach i y f h1 h2).keep (Nat.le_trans hsz hg.size) hX
          · rw [List.getElem?_append_right (by omega)] at h1
            rw [List.getElem?_append_right (by omega)] at h2
            have hi0 : i - ys.length = 0 := by
              rcases Nat.eq_zero_or_pos (i - ys.length) with h | h
              · exact h
              · rw [List.getElem?_eq_none (by simp; omega)] at h1; cases h1
            have hi1 : i - Lk.length = 0 := by omega
            rw [hi0] at h1
            rw [hi1] at h2
            cases h1
            cases h2
            have hrb : ∀ q off, ra = some ⟨q, off, none⟩ → w2.heap[q]? = U.heap[q]? := fun q off e => hbk q (hra q off e).2 (fun e2 => by have := (hge q e2.symm).2; have := (hra q off e).1; omega)
            refine ⟨rfl, rfl, hmk.symm, rfl, rfl, rfl, fun j m hm => ?_, fun q off e => ⟨⟨?_, fun e2 => ?_⟩, Nat.lt_of_lt_of_le (hra q off e).2 hg.size⟩⟩
            · obtain ⟨b', off', e1, e2, e3⟩ := hrs j m hm
              exact ⟨b', off', e1, Nat.lt_of_lt_of_le e2 hg.size, fun j v hv => by rw [World.cell?_of_block (hrb b' off' e1)]; exact e3 j v hv⟩
            · have := (hra q off e).1
              have := hos.size
              omega
            · have e3 : q = g := Option.some.inj e2
              subst e3
              have h5 := hra q off e
              rcases hgg with h | h
              · have := (hge q h).2; omega
              · omega
      have HOS : Hid (OS B B W wr) := hos
      have HOWN : Hid (∀ U : World, (∀ i, i < wr.heap.size → ¬ B i → U.heap[i]? = wr.heap[i]?) → U.ownsRow W.heap.size tSn 238 u5 k (flG lyS ys)) := fun U h => by
        exact own_keep hown (fun q C e _ => h q (owns_ge hown e).2 (fun hB => by have := HBS.out q hB; have := (owns_ge hown e).1; omega))
      have hws : W.heap.size ≤ wr.heap.size := hos.size
      have HWW : Hid (w.heap.size ≤ wr.heap.size) := X.bl.size
      clear hrg hown heach hos X hll hmk HR HME HS1 HS2 HBS
      generalize HU.told sk.F (HU.cnt sk.F 6) = TD at *
      generalize P'.h = h at *
      generalize s.me = me at *
      obtain ⟨L0, hL0⟩ : ∃ L0, snL d kd fr sq nd zM nilV = L0 := ⟨_, rfl⟩
      have hl0 : L0.length = 238 := by rw [← hL0]; exact HLN.out _ _
      have hi0 : (Try.prog.info? tSn).map (·.size) = some L0.length := by rw [hl0]; exact infoSn
      rw [hL0] at HRG HN1 HON
      clear hL0
      obtain ⟨L1, hL1⟩ : ∃ L1, snL d kd me sq nd zM nilV = L1 := ⟨_, rfl⟩
      have hl1 : L1.length = 238 := by rw [← hL1]; exact HLN.out _ _
      rw [hL1] at HN1 HN2
      clear hL1
      have HAL : Hid (L0.toArray.all (·.oneCell') = true) := all_one HON.out
      have hsz0 : L0.toArray.size = 238 := by simp [hl0]
      have HKL : Hid (∀ (v : Value) (U : World), U.heap[wr.heap.size]? = some (.cells (snL d kd me sq nd zM v).toArray tSn (0, 0)) → (U.cell? ⟨wr.heap.size, 234, none⟩ = some (.slice none 0 0) ∧ U.cell? ⟨wr.heap.size, 235, none⟩ = some (.slice none 0 0)) ∧ U.cell? ⟨wr.heap.size, 236, none⟩ = some (.slice none 0 0)) := fun v U hU => ⟨⟨cellL hU (HG3.out v 0 (by omega)), cellL hU (HG3.out v 1 (by omega))⟩, cellL hU (HG3.out v 2 (by omega))⟩
      clear HG3
      go_wp2_with (first
        | (refine wpList_load_mid rfl tSn _ rfl b2 (off + k * 238) rfl L0 _ HRG.out hum rfl hi0 ?_; clear HRG)
        | (refine wpList_store_row rfl tSn _ _ rfl wr.heap.size L0.toArray rfl rfl tSn zSn (heap_alloc_new wr _) (by rw [hsz0]; exact infoSn) (by rw [hsz0, zSn_size]) HAL.out ?_; rw [World.setRow_alloc_new]; clear HAL; obtain ⟨V, hV⟩ : ∃ V, V = wr.alloc (.cells L0.toArray tSn) := ⟨_, rfl⟩; rw [← hV]; obtain ⟨r0, HB⟩ := new_V hV; have R0 := hidI r0; clear hV r0; obtain ⟨k10, k01⟩ := HC10.out _ HB)
        | (refine wl_setU rfl 3 _ _ rfl wr.heap.size 2 (.int .i64 me) rfl rfl rfl info1a L0 L1 tSn R0.out (by omega) HN1.out ?_; intro U1 R1 O1; clear R0 k10 k01; have B1 := O1.bl HB (Nat.le_refl _); obtain ⟨k10, k01⟩ := HC10.out _ B1; have HR1 := hidI R1; have HB1 := hidI B1; clear R1 O1 B1 HB)
        | (go_at_call 40; refine (CT.out _ HB1.out).mono ?_; clear CT k10 k01; rintro e U2 ⟨ra, rc, rfl, t1, t2, t3, t4⟩; have R2 := hidI ((t3.block _ (lt_heap HR1.out) HNB.out).trans HR1.out); have hlt1 := lt_heap HR1.out; have T1 := hidI t1; have T2 := hidI t2; have T3 := hidI t3; have T4 := hidI t4; clear t1 t2 t3 t4 HR1)
        | (refine wl_setU rfl 46 _ _ rfl wr.heap.size 237 (.slice ra TD.length rc) rfl rfl rfl info1b L1 _ tSn R2.out (by omega) (HN2.out _) ?_; intro U3 R3 O3; clear R2; obtain ⟨⟨k4, k5⟩, k6⟩ := HKL.out _ _ R3; clear k5 k6; have HR3 := hidI R3; have HO3 := hidI O3; clear R3 O3)
        | (go_at_call 41; refine (cloneD _).mono ?_; clear k4; rintro e w1 ⟨rfl, hw⟩; rw [hw]; clear hw w1)
        | (refine wl_setU rfl 41 _ _ rfl wr.heap.size 234 (.slice none 0 0) rfl rfl rfl info1c _ _ tSn HR3.out (by rw [HLN.out]; omega) (HN3.out _ 0 (by omega)) ?_; intro U4 R4 O4; clear HR3; obtain ⟨⟨k4, k5⟩, k6⟩ := HKL.out _ _ R4; clear k4 k6; have HR4 := hidI R4; have HO4 := hidI O4; clear R4 O4)
        | (go_at_call 42; refine (cloneG _).mono ?_; clear k5; rintro e w1 ⟨rfl, hw⟩; rw [hw]; clear hw w1)
        | (refine wl_setU rfl 44 _ _ rfl wr.heap.size 235 (.slice none 0 0) rfl rfl rfl info1d _ _ tSn HR4.out (by rw [HLN.out]; omega) (HN3.out _ 1 (by omega)) ?_; intro U5 R5 O5; clear HR4; obtain ⟨⟨k4, k5⟩, k6⟩ := HKL.out _ _ R5; clear k4 k5; have HR5 := hidI R5; have HO5 := hidI O5; clear R5 O5)
        | (go_at_call 43; refine (cloneR _).mono ?_; clear k6; rintro e w1 ⟨rfl, hw⟩; rw [hw]; clear hw w1)
        | (refine wl_setU rfl 45 _ _ rfl wr.heap.size 236 (.slice none 0 0) rfl rfl rfl info1e _ _ tSn HR5.out (by rw [HLN.out]; omega) (HN3.out _ 2 (by omega)) ?_; intro U6 R6 O6; obtain ⟨q1, q2, q3, q4, q5, q6⟩ := chain_tell HWW.out HOS.out HB1.out hlt1 T1.out T2.out T3.out T4.out HO3.out HO4.out HO5.out O6 HNB.out; have FINX := hidI (fun (w2 : World) (g c' : Nat) => HFIN.out U6 w2 g c' ra rc q1 (Or.inr trivial) q2 q3 q4 q5 q6); have OWNX := hidI (HOWN.out U6 q4); have hu6 : W.heap.size ≤ U6.heap.size := q1.size; have HR6 := hidI R6; clear q1 q2 q3 q4 q5 q6 HR5 R6 O6 HFIN HOWN HOS HB1 T1 T2 T3 T4 HO3 HO4 HO5 HNB; have HY : Hid (snL d kd me sq nd zM (.slice ra TD.length rc) = lyS.f ⟨d, kd, me, sq, nd, ra, TD.length, rc⟩) := rfl; have hl2 := HLN.out me (.slice ra TD.length rc); clear HLN HN3 HKL HN2 HN1 HC10; generalize snL d kd me sq nd zM (.slice ra TD.length rc) = L2 at HY hl2 HR6; have hi2 : (Try.prog.info? tSn).map (·.size) = some L2.toArray.size := by (rw [List.size_toArray, hl2]; exact infoSn))
        | (refine wpList_load_row rfl tSn _ rfl wr.heap.size rfl tSn L2.toArray (0, 0) _ HR6.out hum rfl hi2 ?_; clear HR6)
        | (refine wl_bs1 rfl 28 tSn _ rfl L2 238 408 (.agg z) undSs hz1 hl2 (by omega) (by omega) rfl ?_)
        | (refine wl_app1X lyS tSn 28 (.agg z) 408 undSs hz1 hz2 (by omega) rfl _ _ rfl W.heap.size k ys hyl.symm ⟨d, kd, me, sq, nd, ra, TD.length, rc⟩ u5 rfl hu6 OWNX.out U6.heap.size rfl rfl (by omega) ?_ _ (by rw [HY.out]) rfl; intro g c' w2 g1 g2 g3 g4; have G := hidI (FINX.out w2 g c' g1 g2 g3 g4); clear g1 g2 g3 g4 FINX OWNX))
      go_roundw
      case rel => exact ⟨k + 1, by omega, by go_num, G.out⟩
      case measure => simp [intOf]; omega
    · obtain rfl : k = l.length := by omega
      obtain ⟨P', X⟩ := ht.sc
      obtain ⟨ys, hyl, hown, heach⟩ := ht.ex
      have hos := ht.os
      rw [List.take_length] at X heach
      obtain ⟨a', c', rfl, hrs⟩ := owns_rs lyS (ks := ys) (by rw [hyl]; exact hown)
      have HQ : Hid ((∃ P', S0 w p P' B N (SO.tellS s l) wr) ∧ OS B B W wr ∧ FRS wr (fun g => W.heap.size ≤ g) a' ys (SO.tellL s l)) := ⟨⟨P', X⟩, hos, ⟨by rw [hyl, SO.tellL_len], hrs, fun g off e => by
        have := owns_ge hown (g := g) (by rw [e]; rfl)
        exact ⟨this.1, this.2⟩, fun i y f h1 h2 => (heach i y f h1 h2).keep (Nat.le_refl _) (fun g hg _ => ⟨rfl, hg.1⟩)⟩⟩
      clear ht X hown heach hos hrs HR HME HBS
      rw [hyl]
      go_wp2_with fail
      go_ret
      exact ⟨a', c', ys, rfl, HQ.out⟩
end Go.Proofs.Ytebmgajijjhinaa
