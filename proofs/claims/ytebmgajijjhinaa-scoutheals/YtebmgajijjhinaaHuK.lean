/- Take. -/
import Derived.Test.YtebmgajijjhinaaHuQ
namespace Go.Proofs.Ytebmgajijjhinaa
open Go.RowKit Go.Maps
set_option linter.unusedVariables false
set_option linter.unusedSimpArgs false

theorem flR_more : ∀ (L : List HU.Ru) (k : Nat) (r : HU.Ru) (q : Int), L[k]? = some r → flG lyR (L.set k (r.1, q)) = (flG lyR L).set (k * 4 + 3) (.int .i64 q)
  | [], k, r, q, h => by simp at h
  | x :: l, 0, r, q, h => by
    simp at h; subst h; rfl
  | x :: l, k + 1, r, q, h => by
    have ih := flR_more l k r q (by simpa using h)
    have e : ∀ y (z : List HU.Ru), flG lyR (y :: z) = .int .i64 y.1.1 :: .int .i64 y.1.2.1 :: .int .i64 y.1.2.2 :: .int .i64 y.2 :: flG lyR z := fun y z => rfl
    rw [List.set_cons_succ, e, e, ih, show (k + 1) * 4 + 3 = (k * 4 + 3) + 1 + 1 + 1 + 1 by omega]
    rfl
/-- how often a rumour of a row of one's own is to be told is written anew -/
theorem own_more {W : World} {B g n cap : Nat} {L : List HU.Ru} {k : Nat} {r : HU.Ru} (hn : n = L.length) (h : W.ownsRow B 115 4 (.slice (some ⟨g, 0, none⟩) n cap) n (flG lyR L)) (hk : L[k]? = some r) (q : Int) :
    (W.setCell ⟨g, k * 4 + 3, none⟩ (.int .i64 q)).ownsRow B 115 4 (.slice (some ⟨g, 0, none⟩) n cap) n (flG lyR (L.set k (r.1, q))) := by
  obtain ⟨h0, ⟨h1, h2⟩ | ⟨g', cap', cur, h1, h2, h3, h4, h5, h6, h7⟩⟩ := h
  · cases h1
  · simp only [Value.slice.injEq, Option.some.injEq, Addr.mk.injEq, true_and, and_true] at h1
    obtain ⟨rfl, rfl⟩ := h1
    refine ⟨by rw [flG_len, List.length_set, hn]; rfl, Or.inr ⟨g, cap, _, rfl, h2, heap_setCell_own h3, h4, h5, by simpa using h6, ?_⟩⟩
    rw [Array.toList_setIfInBounds, List.take_set, h7, flR_more L k r q hk]
theorem flM_take {l : List HU.Ru} {k : Nat} {r : HU.Ru} (h : l[k]? = some r) : (l.take (k + 1)).map (fun r => r.1) = (l.take k).map (fun r => r.1) ++ [r.1] := by
  rw [List.take_add_one, h]; simp
/-- in the middle of a taking: so many are told -/
structure TK (w W : World) (b : Nat) (v : Value) (T : Int) (l : List HU.Ru) (k : Nat) (u : Value) (wr : World) : Prop where
  own : wr.ownsRow w.heap.size 115 4 v l.length (flG lyR (HU.decL l k))
  gr : ∀ i, i < W.heap.size → some i ≠ v.ownBlock → wr.heap[i]? = W.heap[i]?
  sz : W.heap.size ≤ wr.heap.size
  os : wr.os = W.os
  tape : wr.tape = W.tape
  output : wr.output = W.output
  told : wr.ownsRow W.heap.size 54 3 u ((l.take k).map (fun r => r.1)).length (flG lyM ((l.take k).map (fun r => r.1)))
/-- what was told is appended -/
theorem TK.app {w W wr w2 : World} {b : Nat} {v : Value} {T : Int} {F : HU.St} {l : List HU.Ru} {k : Nat} {u : Value} (x : HL w b v T F l W) (h : TK w W b v T l k u wr) (hg : wr.grownBy w2 u.ownBlock) :
    w2.ownsRow w.heap.size 115 4 v l.length (flG lyR (HU.decL l k)) ∧ (∀ i, i < W.heap.size → some i ≠ v.ownBlock → w2.heap[i]? = W.heap[i]?) ∧ W.heap.size ≤ w2.heap.size ∧ w2.os = W.os ∧ w2.tape = W.tape ∧ w2.output = W.output := by
  have hge : ∀ i, i < W.heap.size → w2.heap[i]? = wr.heap[i]? := fun i hi => hg.block i (Nat.lt_of_lt_of_le hi h.sz) (fun e => by have := (owns_ge h.told e.symm).1; omega)
  refine ⟨?_, fun i hi hne => (hge i hi).trans (h.gr i hi hne), Nat.le_trans h.sz hg.size, hg.os.trans h.os, hg.tape.trans h.tape, hg.output.trans h.output⟩
  obtain ⟨h0, h1 | ⟨g, cap, cur, h1, h2, h3, h4⟩⟩ := h.own
  · exact ⟨h0, Or.inl h1⟩
  · refine ⟨h0, Or.inr ⟨g, cap, cur, h1, h2, ?_, h4⟩⟩
    rw [hge g (by have := (x.ge (g := g) (by rw [h1]; rfl)).2; exact this)]; exact h3
set_option maxRecDepth 8000 in
set_option maxHeartbeats 4000000 in
/-- TAKE -/
theorem Take_x {w W : World} {b : Nat} {v : Value} {T : Int} {F : HU.St} (x : HL w b v T F (HU.tl F) W) (most : Int) :
    Calls Try.prog 40 #[.pointer (some ⟨b, 0, none⟩), .int .i64 most] W fun e w' => ∃ v' a c, e = .returned (.slice a (HU.told F (HU.cnt F most)).length c) ∧ RS lyM w' a (HU.told F (HU.cnt F most)) ∧ HL w b v' T (HU.took F (HU.cnt F most)) (HU.tl (HU.took F (HU.cnt F most))) w' ∧ OV b v v' W w' ∧ v'.ownBlock = v.ownBlock ∧ ∀ q off, a = some ⟨q, off, none⟩ → W.heap.size ≤ q ∧ q < w'.heap.size := by
  have hcl := HU.cnt_le F most
  have HRT : Hid (HU.Rep (kp (HU.decL (HU.tl F) (HU.cnt F most))) (HU.took F (HU.cnt F most))) := HU.rep_took x.ok _
  have HOK : Hid (HU.Ok (HU.took F (HU.cnt F most)) T) := HU.ok_took x.ok _
  have HTD : Hid (HU.told F (HU.cnt F most) = ((HU.tl F).take (HU.cnt F most)).map (fun r => r.1)) := rfl
  have hcm : ∀ k : Nat, k < HU.cnt F most ↔ (k : Int) < min most ((HU.tl F).length : Int) := fun k => by unfold HU.cnt; omega
  generalize HU.told F (HU.cnt F most) = TD at *
  generalize HU.took F (HU.cnt F most) = F' at *
  generalize HU.cnt F most = N at *
  generalize HU.tl F = l at *
  have hlen := x.len
  obtain ⟨a, c, rfl, hrs⟩ := owns_rs lyR x.own
  have c1 := x.c1
  have HX : Hid (HL w b (.slice a l.length c) T F l W) := x
  obtain ⟨fs, hum⟩ := undMe
  have hbW := x.lt
  have HNE := hidP x.ne
  obtain ⟨M, hM⟩ : ∃ M, min most (l.length : Int) = M := ⟨_, rfl⟩
  rw [hM] at hcm
  have HCM := hidP hcm
  clear x hrs hcm
  go_enter Try.func40, Try.ntmps40
  go_wp2_with fail
  clear hM
  go_loopw [5, 6, 16] (fun u5 _ u16 wr => ∃ k : Nat, k ≤ N ∧ u16 = .int .i64 k ∧ TK w W b (.slice a l.length c) T l k u5 wr) (fun _ _ u16 _ => N - (intOf u16).toNat)
  case atStart => exact ⟨0, Nat.zero_le _, rfl, ⟨by rw [HU.decL_zero]; exact HX.out.own, fun _ _ _ => rfl, Nat.le_refl _, rfl, rfl, rfl, ⟨rfl, Or.inl ⟨rfl, rfl⟩⟩⟩⟩
  case round =>
    obtain ⟨k, hk, rfl, ht⟩ := hrel
    have hbw : some b ≠ (Value.slice a l.length c).ownBlock := HNE.out
    have c1r : wr.cell? ⟨b, 1, none⟩ = some (.slice a l.length c) := by rw [World.cell?_of_block (w := W) (ht.gr b hbW hbw)]; exact c1
    by_cases hlt : k < N
    · have hki : (k : Int) < M := (HCM.out k).1 hlt
      have hkl : (k : Int) < (l.length : Int) := by omega
      obtain ⟨r, hr⟩ : ∃ r, l[k]? = some r := ⟨l[k]'(by omega), List.getElem?_eq_getElem _⟩
      obtain ⟨hd1, hd2⟩ := HU.decL_at hr
      have hrm := (HX.out.rep.mem r).1 (List.mem_of_getElem? hr)
      have hq1 : 0 < r.2 := hrm.2.1
      have hq2 : r.2 ≤ 100 := by have h1 := HX.out.ok.hi r.1.1; rw [hrm.1] at h1; have := HX.out.t2; omega
      clear hrm
      obtain ⟨g, rfl⟩ : ∃ g, a = some ⟨g, 0, none⟩ := by
        obtain ⟨_, ⟨h1, h2⟩ | ⟨g', cap', cur, h1, _⟩⟩ := HX.out.own
        · omega
        · simp only [Value.slice.injEq] at h1
          exact ⟨g', h1.1⟩
      obtain ⟨a', c', ha', hrs'⟩ := owns_rs lyR (ks := HU.decL l k) (by rw [HU.decL_len]; exact ht.own)
      obtain ⟨b', off', e', _, hrg⟩ := hrs' k r hd1
      rw [e'] at ha'
      obtain ⟨rfl, rfl⟩ : g = b' ∧ 0 = off' := by simpa using (Value.slice.inj ha').1
      clear ha' e' hrs'
      have hrg2 : wr.rangeAt g (k * 4) (lyR.f r) := by rw [show k * 4 = 0 + k * lyR.k from (Nat.zero_add _).symm]; exact hrg
      have HR : Hid (wr.rangeAt g (k * 4) [.int .i64 r.1.1, .int .i64 r.1.2.1, .int .i64 r.1.2.2]) := fun j u hu => hrg2 j u (by
        match j, hu with
        | 0, hu => exact hu
        | 1, hu => exact hu
        | 2, hu => exact hu)
      have HT : Hid (TK w W b (.slice (some ⟨g, 0, none⟩) l.length c) T l k u5 wr) := ht
      have HTL : Hid ((l.take (k + 1)).map (fun r => r.1) = (l.take k).map (fun r => r.1) ++ [r.1]) := flM_take hr
      have hgW : g < W.heap.size := (HX.out.ge (g := g) rfl).2
      have FIN : Hid (∀ w2 q, wr.grownBy w2 u5.ownBlock → w2.cell? ⟨b, 1, none⟩ = some (.slice (some ⟨g, 0, none⟩) l.length c) ∧ w2.cell? ⟨g, k * 4 + 3, none⟩ = some (.int .i64 r.2) ∧ w2.frozen? ⟨g, k * 4 + 3, none⟩ = false ∧ (w2.ownsRow W.heap.size 54 3 q (((l.take (k + 1)).map (fun r => r.1))).length (flG lyM ((l.take (k + 1)).map (fun r => r.1))) → TK w W b (.slice (some ⟨g, 0, none⟩) l.length c) T l (k + 1) q (w2.setCell ⟨g, k * 4 + 3, none⟩ (.int .i64 (r.2 - 1))))) := fun w2 q hg => by
        obtain ⟨o1, o2, o3, o4, o5, o6⟩ := ht.app HX.out hg
        have hge : w2.heap[g]? = wr.heap[g]? := hg.block g (Nat.lt_of_lt_of_le hgW ht.sz) (fun e => by have := (owns_ge ht.told e.symm).1; omega)
        have o7 := own_more (L := HU.decL l k) (HU.decL_len l k).symm o1 hd1 (r.2 - 1)
        have hg2 := grown_setCell w2 g (k * 4 + 3) (.int .i64 (r.2 - 1))
        refine ⟨by rw [World.cell?_of_block (w := W) (o2 b hbW hbw)]; exact c1, ?_, ?_, fun h => ⟨by rw [hd2]; exact o7, fun i hi hne => ?_, Nat.le_trans o3 hg2.size, o4, o5, o6, ?_⟩⟩
        · rw [World.cell?_of_block (w := wr) hge]; exact hrg2 3 _ rfl
        · obtain ⟨C, hC⟩ := own_tag o1 (g := g) rfl
          simp [World.frozen?, hC]
        · rw [hg2.block i (Nat.lt_of_lt_of_le hi o3) (fun e => hne e)]; exact o2 i hi hne
        · obtain ⟨h0, h1 | ⟨g3, cap, cur, h1, h2, h3, h4⟩⟩ := h
          · exact ⟨h0, Or.inl h1⟩
          · exact ⟨h0, Or.inr ⟨g3, cap, cur, h1, h2, by rw [hg2.block g3 (lt_heap h3) (fun e => by have e2 : g3 = g := Option.some.inj e; omega)]; exact h3, h4⟩⟩
      have htl : ((l.take k).map (fun r => r.1)).length ≤ 6 := by simp; omega
      have hszr : W.heap.size ≤ wr.heap.size := ht.sz
      have HTO : Hid (wr.ownsRow W.heap.size 54 3 u5 ((l.take k).map (fun r => r.1)).length (flG lyM ((l.take k).map (fun r => r.1)))) := ht.told
      clear hrg hrg2 ht hd1 hd2 HX HT hr
      generalize (l.take k).map (fun r => r.1) = L at *
      obtain ⟨⟨n, i, s⟩, q⟩ := r
      simp only at HR FIN HTL hq1 hq2
      go_wp2_with (first
        | (refine wpList_load_mid rfl 54 _ rfl g (k * 4) rfl [.int .i64 n, .int .i64 i, .int .i64 s] _ HR.out hum rfl infoMe ?_; clear HR)
        | (refine wl_app1N lyM 54 46 (.agg #[.int .i64 0, .int .i64 0, .int .i64 0]) 24 undMs infoMe3 rfl (by decide) rfl _ _ rfl W.heap.size L.length L rfl (n, i, s) u5 rfl hszr HTO.out rfl (by omega) ?_ _ rfl rfl; intro a2 c2 w2 g1 g2; obtain ⟨k1, k2, k3, K4⟩ := FIN.out w2 (.slice a2 (L.length + 1) c2) g2; have K5 : Hid (TK w W b (.slice (some ⟨g, 0, none⟩) l.length c) T l (k + 1) (.slice a2 (L.length + 1) c2) (w2.setCell ⟨g, k * 4 + 3, none⟩ (.int .i64 (q - 1)))) := K4 (by rw [HTL.out, List.length_append]; exact g1); clear K4 FIN c1r))
      go_roundw
      case rel => exact ⟨k + 1, by omega, by go_num, K5.out⟩
      case measure => simp [intOf]; omega
    · obtain rfl : k = N := by omega
      have hki : decide ((k : Int) < M) = false := decide_eq_false (fun e => hlt ((HCM.out k).2 e))
      have CD : Hid (Calls Try.prog 60 #[.slice a l.length c, .func (.func 61) #[] #[]] wr fun e w' => ∃ v', e = .returned v' ∧ w'.ownsRow w.heap.size 115 4 v' (kp (HU.decL l k)).length (flG lyR (kp (HU.decL l k))) ∧ wr.grownBy w' (Value.slice a l.length c).ownBlock ∧ v'.ownBlock = (Value.slice a l.length c).ownBlock) := DeleteR (l := HU.decL l k) (HU.decL_len l k).symm ht.own (by rw [HU.decL_len]; omega) (Nat.le_trans (Below.size HX.out.bl) ht.sz)
      obtain ⟨a5, c5, hu5, hrs5⟩ := owns_rs lyM ht.told
      subst hu5
      have HTT : Hid (RS lyM wr a5 TD ∧ ∀ q off, a5 = some ⟨q, off, none⟩ → W.heap.size ≤ q ∧ q < wr.heap.size) := ⟨by rw [HTD.out]; exact hrs5, fun q off e => owns_ge ht.told (by rw [e]; rfl)⟩
      have hTL : ((l.take k).map (fun r => r.1)).length = TD.length := by rw [HTD.out]
      rw [hTL]
      have FIN : Hid (∀ v' w2, w2.ownsRow w.heap.size 115 4 v' (kp (HU.decL l k)).length (flG lyR (kp (HU.decL l k))) → wr.grownBy w2 (Value.slice a l.length c).ownBlock → v'.ownBlock = (Value.slice a l.length c).ownBlock → w2.cell? ⟨b, 1, none⟩ = some (.slice a l.length c) ∧ w2.frozen? ⟨b, 1, none⟩ = false ∧ HL w b v' T F' (kp (HU.decL l k)) (w2.setCell ⟨b, 1, none⟩ v') ∧ OV b (.slice a l.length c) v' wr (w2.setCell ⟨b, 1, none⟩ v') ∧ OV b (.slice a l.length c) v' W (w2.setCell ⟨b, 1, none⟩ v')) := fun v' w2 h1 h2 h3 => by
        have hx := HX.out
        have hrow : w2.heap[b]? = some (.cells #[.int .i64 T, .slice a l.length c] 117 (0, 0)) := by
          rw [h2.block b (Nat.lt_of_lt_of_le hbW ht.sz) hbw, ht.gr b hbW hbw]; exact hx.row
        have hgs := grown_setCell w2 b 1 v'
        have hO : OV b (.slice a l.length c) v' wr (w2.setCell ⟨b, 1, none⟩ v') := ⟨h2.os, h2.tape, h2.output, Nat.le_trans h2.size hgs.size, fun i hi hb hne => (hgs.block i (Nat.lt_of_lt_of_le hi h2.size) (fun e => hb (Option.some.inj e))).trans (h2.block i hi hne), fun q hq => Or.inl (by rw [← h3]; exact hq)⟩
        have hO0 : OV b (.slice a l.length c) (.slice a l.length c) W wr := ⟨ht.os, ht.tape, ht.output, ht.sz, fun i hi _ hne => ht.gr i hi hne, fun q hq => Or.inl hq⟩
        have hbl : Bl w w2 := (hO0.trans (OV.grown h2)).below hx.bl hx.b0 (fun g e => (hx.ge e).1)
        exact ⟨by rw [Lib.cell_of_heap hrow]; rfl, by simp [World.frozen?, hrow], field_set (l' := kp (HU.decL l k)) hrow h1 hx.b0 hbl HRT.out HOK.out hx.t1 hx.t2, hO, hO0.trans hO⟩
      have CSO : Hid (∀ v' w3, HL w b v' T F' (kp (HU.decL l k)) w3 → Calls Try.prog 57 #[v', .func (.func 58) #[] #[]] w3 fun e w' => e = .returned (.tuple #[]) ∧ HL w b v' T F' (HU.tl F') w' ∧ OV b v' v' w3 w') := fun v' w3 h => sort_h h
      have HGE : Hid (∀ g, (Value.slice a l.length c).ownBlock = some g → g < W.heap.size) := fun g e => (HX.out.ge e).2
      have HSZ := hidP ht.sz
      clear ht hrs5 HX HTD hTL hcl HRT HOK
      generalize kp (HU.decL l k) = KL at *
      go_wp2_with (first
        | (go_at_call 60; refine (CD.out).mono ?_; clear CD; rintro e w2 ⟨v', rfl, d1, d2, d3⟩; obtain ⟨a3, c3, rfl, _⟩ := owns_rs lyR d1; obtain ⟨z1, z2, Z3, Z4, Z5⟩ := FIN.out _ _ d1 d2 d3; have H3 := hidP Z3; have O3 := hidP Z4; have O4 := hidP Z5; have HV3 := hidP d3; have z3 := Z3.c1; clear FIN d1 d2 d3 Z4 Z5 Z3)
        | (go_at_call 57; refine (CSO.out _ _ H3.out).mono ?_; clear CSO; rintro e w3 ⟨rfl, H5, O5⟩))
      go_ret
      have hap : Apart b (.slice a l.length c) a5 := fun q off e => by
        have h1 := (HTT.out.2 q off e).1
        exact ⟨by omega, fun e2 => by have := HGE.out q e2.symm; omega⟩
      have hap2 := hap.ov O3.out (fun q off e => (HTT.out.2 q off e).2)
      refine ⟨_, a5, c5, rfl, (HTT.out.1.ov O3.out hap).ov O5 hap2, H5, O4.out.trans O5, HV3.out, fun q off e => ?_⟩
      have h1 := HTT.out.2 q off e
      exact ⟨h1.1, by have := O3.out.size; have := O5.size; omega⟩
end Go.Proofs.Ytebmgajijjhinaa
