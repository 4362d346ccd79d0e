/- OvenRuns: the walk. -/
import Derived.Test.YtlblbdfpcaplkaaGreatDoorRun9
import Derived.Laws.StructEq
namespace Go.Proofs.YtlblbdfpcaplkaaGreatDoor
open Go.RowKit
set_option linter.unusedVariables false
set_option linter.unusedSimpArgs false

theorem find_src {l : List O.So} {s : List UInt8} (h : s ∈ O.nms l) : ∃ x, x ∈ l ∧ x.1 = s ∧ fndS l s = some x.2 := by
  obtain ⟨y, hy, hys⟩ := List.mem_map.1 h
  cases hf : l.find? (fun x => decide (x.1 = s)) with
  | none =>
    rw [List.find?_eq_none] at hf
    exact absurd (decide_eq_true hys) (hf y hy)
  | some x =>
    have h1 := List.mem_of_find?_eq_some hf
    have h2 := List.find?_some hf
    exact ⟨x, h1, of_decide_eq_true h2, by unfold fndS; rw [hf]; rfl⟩
theorem find_src_no {l : List O.So} {s : List UInt8} (h : s ∉ O.nms l) : fndS l s = none := by
  unfold fndS
  rw [List.find?_eq_none.2 (fun x hx hp => h (List.mem_map.2 ⟨x, hx, of_decide_eq_true hp⟩))]; rfl
theorem find_built {g : RC.Gr} {l : List O.So} (h : TR.Good g) {p : Nat} {t : RC.Ac} (ht : g.2[p]? = some t) : fndB (O.build g l) t.1 = some (O.gt (O.baked g l) t.1) := by
  unfold fndB
  have hx : (O.build g l)[p]? = some (t.1, O.gt (O.baked g l) t.1) := by unfold O.build; rw [List.getElem?_map, ht]; rfl
  rw [find_at (k := p) (fun i y hi hy => ?_) hx (by simp)]
  · rfl
  · unfold O.build at hy
    rw [List.getElem?_map] at hy
    cases hu : g.2[i]? with
    | none => rw [hu] at hy; cases hy
    | some u =>
      rw [hu] at hy
      cases hy
      exact decide_eq_false (fun e => by have := TR.act_inj h.nd hu ht e; omega)
/-- what the law finds of an input is what it came to -/
theorem input_at {g : RC.Gr} {l : List O.So} (h : O.Ok g l) {p : Nat} {t : RC.Ac} (ht : g.2[p]? = some t) {s : List UInt8} (hs : s ∈ t.2.1) :
    (∃ b, fndS l s = some b ∧ O.gt (O.baked g l) s = (0, b)) ∨ (fndS l s = none ∧ fndB (O.build g l) s = some (O.gt (O.baked g l) s)) := by
  by_cases hm : s ∈ O.nms l
  · obtain ⟨x, hx, rfl, hf⟩ := find_src hm
    exact Or.inl ⟨x.2, hf, O.gt_source h hx⟩
  · refine Or.inr ⟨find_src_no hm, ?_⟩
    have h1 := TR.miss_not h.good.ms t (List.mem_of_getElem? ht) s hs
    unfold TR.nm at h1
    rcases List.mem_append.1 h1 with h1 | h1
    · exact absurd (h.all s h1) hm
    · obtain ⟨u, hu, rfl⟩ := List.mem_map.1 h1
      obtain ⟨q, hq⟩ := List.mem_iff_getElem?.1 hu
      exact find_built h.good hq
theorem eqRe (c c' : Int) (t t' : List UInt8) (W : World) : (Op.equalIn 10000 46 (.agg #[.int .i64 c, .string (M.bs t)]) (.agg #[.int .i64 c', .string (M.bs t')])).run Tryz.prog W = .ok (decide (c = c' ∧ t = t')) W := by
  have hS : Tryz.prog.underlying 46 = some (.struct (Tryz.prog.fieldsOf 46)) := by kernel_rfl
  have hp : Tryz.prog.stoodInHeld 46 = false := by kernel_rfl
  rw [show (10000 : Nat) = 9998 + 1 + 1 from rfl, run_equalIn_struct W (9998 + 1) 46 _ _ hS hp]
  simp only [Program.fieldsOf, Tryz.underlying46, Op.eqFields]
  have p1 := fun (c : Int) (t : List UInt8) W => part_one (t := 30) Tryz.isAgg30 #[.int .i64 c, .string (M.bs t)] 0 (.int .i64 c) rfl W
  have p2 := fun (c : Int) (t : List UInt8) W => part_one (t := 9) Tryz.isAgg9 #[.int .i64 c, .string (M.bs t)] 1 (.string (M.bs t)) rfl W
  have h1 : ∀ W, (Op.equalIn (9998 + 1) 30 (.int .i64 c) (.int .i64 c')).run Tryz.prog W = .ok (c == c') W := fun W => run_equalIn_int W 9998 30 .i64 .i64 c c' Tryz.underlying30
  have h2 : ∀ W, (Op.equalIn (9998 + 1) 9 (.string (M.bs t)) (.string (M.bs t'))).run Tryz.prog W = .ok ((M.bs t).toList == (M.bs t').toList) W := fun W => run_equalIn_string W 9998 9 _ _ Tryz.underlying9
  have hk := bs_eq9 t t'
  by_cases e1 : c = c'
  · subst e1
    by_cases e2 : t = t'
    · subst e2; simp [p1, p2, h1, h2]
    · have hk' : ((M.bs t).toList == (M.bs t').toList) = false := by rw [hk]; simp [e2]
      simp [p1, p2, h1, h2, hk', e2]
  · have e1' : (c == c') = false := by simpa using e1
    simp [p1, h1, e1', e1]
theorem emptyS (W : World) : (Instr.buildSlice 22 0 #[]).run Tryz.prog W = .ok (.slice (some ⟨W.heap.size, 0, none⟩) 0 0) (W.alloc (.cells #[] 9)) := by kernel_rfl
theorem take_bad {L : List O.Re} {j : Nat} {r : O.Re} (h : L[j]? = some r) : O.bad (L.take (j + 1)) = (O.bad (L.take j) || O.isBad r) := by
  unfold O.bad
  rw [List.take_add_one, h, List.any_append]; simp
set_option maxRecDepth 8000 in
set_option maxHeartbeats 8000000 in
theorem runs_walk (g : RC.Gr) (l : List O.So) (sa : Option Addr) (sc : Nat) (aa : Option Addr) (ac : Nat) (a : Option Addr) (c : Nat) {w W : World} (hG : GW w) (hT : Tab w) (HB : Bl w W) (hg : GA W.heap.size W g sa sc aa ac) (hk : grOk g) (hv : RS lyS W a l) (hl : l.length ≤ maxLen) (hln : ∀ s ∈ l, s.1.length ≤ maxLen ∧ s.2.length ≤ maxLen) :
    Calls Tryz.prog 5 #[.agg #[.slice sa g.1.length sc, .slice aa g.2.length ac], .slice a l.length c] W fun e w' => e = .returned (.bool true) ∧ Bl w w' := by
  have HWZ : Hid (Bl W (W.alloc (.cells #[.slice sa g.1.length sc, .slice aa g.2.length ac] 25))) := (Bl.refl W).alloc _
  have CA : Hid (Calls Tryz.prog 9 #[] (W.alloc (.cells #[.slice sa g.1.length sc, .slice aa g.2.length ac] 25)) fun e w' => e = .returned (.bool true) ∧ Bl (W.alloc (.cells #[.slice sa g.1.length sc, .slice aa g.2.length ac] 25)) w') := awake_9 (hG.below (HB.step HWZ.out) hG.z) (hT.below (HB.step HWZ.out)) (Bl.refl _)
  have HFA : Hid (∀ U, Bl (W.alloc (.cells #[.slice sa g.1.length sc, .slice aa g.2.length ac] 25)) U → U.cell? ⟨W.heap.size, 0, none⟩ = some (.slice sa g.1.length sc) ∧ U.cell? ⟨W.heap.size, 1, none⟩ = some (.slice aa g.2.length ac)) := fun U hU => by
    have b0 := heap_alloc_new W (.cells #[.slice sa g.1.length sc, .slice aa g.2.length ac] 25)
    have u0 := Below.block hU _ (TA.lt_heap b0)
    rw [b0] at u0
    exact ⟨by rw [Lib.cell_of_heap u0]; rfl, by rw [Lib.cell_of_heap u0]; rfl⟩
  have CG : Hid (∀ U, Bl (W.alloc (.cells #[.slice sa g.1.length sc, .slice aa g.2.length ac] 25)) U → Calls Tryz.prog 10 #[.agg #[.slice sa g.1.length sc, .slice aa g.2.length ac], .slice a l.length c] U fun e w' => e = .returned (.bool (greatB g l)) ∧ Bl (W.alloc (.cells #[.slice sa g.1.length sc, .slice aa g.2.length ac] 25)) w') := fun U hU => great_x g sa sc aa ac hU (hg.bl (HWZ.out.step hU)) hk l a c (hv.bl (HWZ.out.step hU)) hln hl
  have FIN : Hid (∀ U, Bl (W.alloc (.cells #[.slice sa g.1.length sc, .slice aa g.2.length ac] 25)) U → Bl w U) := fun U hU => (HB.step HWZ.out).step hU
  cases hgr : greatB g l with
  | true =>
    rw [hgr] at CG
    clear hG hT HB hg hk hv hln
    go_enter Tryz.func5, Tryz.ntmps5
    go_wp2_with (first
      | (go_at_call 9; refine CA.out.mono ?_; clear CA; rintro e w1 ⟨rfl, H1⟩; obtain ⟨f0, f1⟩ := HFA.out w1 H1)
      | (go_at_call 10; refine (CG.out w1 H1).mono ?_; clear CG; rintro e w2 ⟨rfl, H2⟩))
    go_ret
    exact ⟨rfl, FIN.out _ H2⟩
  | false =>
    rw [hgr] at CG
    obtain ⟨n1, n2, n3, n4, n5, n6⟩ := great_not hgr
    have CB : Hid (∀ U, Bl (W.alloc (.cells #[.slice sa g.1.length sc, .slice aa g.2.length ac] 25)) U → Calls Tryz.prog 11 #[.agg #[.slice sa g.1.length sc, .slice aa g.2.length ac], .slice a l.length c] U (BuP g l U)) := fun U hU =>
      Build_x g l sa sc aa ac a c hG hT (FIN.out U hU) (hg.bl (HWZ.out.step hU)) hk (hv.bl (HWZ.out.step hU)) (by omega) (fun s hs => (hln s hs).1) (fun s hs => by have := (n6 s hs).2; omega)
    by_cases h0 : O.err g l = 0
    · have HOK : Hid (O.Ok g l) := O.err_zero.1 h0
      have hle := HOK.out.good.le
      have CB2 : Hid (∀ U, Bl (W.alloc (.cells #[.slice sa g.1.length sc, .slice aa g.2.length ac] 25)) U → Calls Tryz.prog 11 #[.agg #[.slice sa g.1.length sc, .slice aa g.2.length ac], .slice a l.length c] U fun e w' => ∃ a5 c5, e = .returned (.tuple #[.slice a5 g.2.length c5, .int .i64 0]) ∧ RS lyB w' a5 (O.build g l) ∧ Bl (W.alloc (.cells #[.slice sa g.1.length sc, .slice aa g.2.length ac] 25)) w') := fun U hU => by
        refine (CB.out U hU).mono ?_
        rintro e w' (⟨h, _⟩ | ⟨a5, c5, _, rfl, h1, h2⟩)
        · exact absurd h0 h
        · exact ⟨a5, c5, rfl, h1, hU.step h2⟩
      have CS : Hid (∀ U n, Bl W U → Calls Tryz.prog 24 #[.slice a l.length c, .string (M.bs n)] U fun e w' => e = .returned (.tuple #[.string (M.bs ((fndS l n).getD [])), .bool (fndS l n).isSome]) ∧ w' = U) := fun U n hU => blob_x l a c n U (hv.bl hU) (by omega)
      have CR : Hid (∀ U code (xs : List (List UInt8)) a2 c2, Bl W U → RS lyT U a2 xs → code.length ≤ 200 → xs.length ≤ 1000 → (∀ t ∈ xs, t.length ≤ 1000000) → Calls Tryz.prog 26 #[.string (M.bs code), .slice a2 xs.length c2] U fun e w' => e = .returned (.tuple #[.agg #[.int .i64 ((Q.run code xs).code : Int), .string (M.bs (Q.run code xs).blob)], .int .i64 ((Q.run code xs).n : Int)]) ∧ Bl U w') := fun U code xs a2 c2 hU hr hc hn hx => by
        have h := Run_at code xs a2 c2 (GB.refl (hG.below (HB.step hU) hG.z)) (hT.below (HB.step hU)) (tx_of hr) (by omega) (by omega) (fun t ht => by have := hx t ht; omega)
        refine h.mono ?_
        rintro e w' ⟨rfl, hb⟩
        exact ⟨rfl, hb.b⟩
      have HGA : Hid (GA W.heap.size W g sa sc aa ac) := hg
      have HGK : Hid (grOk g) := hk
      have HN4 : Hid (∀ a ∈ g.2, a.1.length ≤ 200 ∧ a.2.2.length ≤ 200 ∧ a.2.1.length ≤ 10 ∧ ∀ s ∈ a.2.1, s.length ≤ 200) := n4
      clear hG hT HB hg hk hv hln n3 n4 n6 CB
      go_enter Tryz.func5, Tryz.ntmps5
      go_wp2_with (first
        | (go_at_call 9; refine CA.out.mono ?_; clear CA; rintro e w1 ⟨rfl, H1⟩; obtain ⟨f0, f1⟩ := HFA.out w1 H1)
        | (go_at_call 10; refine (CG.out w1 H1).mono ?_; clear CG; rintro e w2 ⟨rfl, H2⟩; obtain ⟨g0, g1⟩ := HFA.out w2 H2)
        | (go_at_call 11; refine (CB2.out w2 H2).mono ?_; clear CB2; rintro e w3 ⟨a5, c5, rfl, hbu, H3⟩; obtain ⟨k0, k1⟩ := HFA.out w3 H3))
      have HBU : Hid (RS lyB w3 a5 (O.build g l)) := hbu
      have HZ3 : Hid (Bl (W.alloc (.cells #[.slice sa g.1.length sc, .slice aa g.2.length ac] 25)) w3) := H3
      have HR3 : Hid (Bl w3 w3) := Bl.refl w3
      clear f0 f1 g0 g1 k0 k1 hbu H1 H2 H3
      go_loopw [7, 8, 9, 10, 11, 12, 13, 14, 15, 16, 17] (fun u7 u8 u9 u10 u11 u12 u13 u14 u15 u16 u17 wr => ∃ k : Nat, k ≤ g.2.length ∧ u7 = .int .i64 k ∧ Bl w3 wr) (fun u7 _ _ _ _ _ _ _ _ _ _ _ => g.2.length - (intOf u7).toNat)
      case atStart => exact ⟨0, Nat.zero_le _, rfl, HR3.out⟩
      case round =>
        obtain ⟨k, hk2, rfl, hbl⟩ := hrel
        have HBR : Hid (Bl w3 wr) := hbl
        obtain ⟨g0, g1⟩ := HFA.out wr (HZ3.out.step hbl)
        clear hbl HR3
        by_cases hlt : k < g.2.length
        · obtain ⟨t, ht⟩ : ∃ t, g.2[k]? = some t := ⟨g.2[k], List.getElem?_eq_getElem hlt⟩
          obtain ⟨ab, aoff, y, c2, haa, hab, hrg, hst⟩ := HGA.out.a k t ht
          have hgk := HGK.out.b t (List.mem_of_getElem? ht)
          obtain ⟨m1, m2, m3, m4⟩ := HN4.out t (List.mem_of_getElem? ht)
          have HWr : Hid (Bl W wr) := (HWZ.out.step (HZ3.out.step HBR.out))
          have hrw : wr.rangeAt ab (aoff + k * 3) (acL t y c2) := fun j v hv => by rw [Bl.cell HWr.out hab]; exact hrg j v hv
          have HIN : Hid (∀ s ∈ t.2.1, (∃ b, fndS l s = some b ∧ O.gt (O.baked g l) s = (0, b)) ∨ (fndS l s = none ∧ fndB (O.build g l) s = some (O.gt (O.baked g l) s))) := fun s hs => input_at HOK.out ht hs
          have HGT : Hid (O.gt (O.baked g l) t.1 = O.mk t.2.2 (O.ins (O.baked g l) t.2.1)) := O.gt_act HOK.out.good l ht
          have HRO : Hid (∀ s, ReOk (O.gt (O.baked g l) s)) := fun s => by
            have := bakedN_ok HOK.out.good (l := l) (fun s hs => by have := HOK.out.blob s hs; omega) _ (Nat.le_refl _) s
            rwa [O.bakedN_all] at this
          have HOT : Hid ((O.build g l)[k]? = some (t.1, O.gt (O.baked g l) t.1)) := by show _ = _; unfold O.build; rw [List.getElem?_map, ht]; rfl
          have CBt : Hid (∀ U n, Bl w3 U → Calls Tryz.prog 25 #[.slice a5 g.2.length c5, .string (M.bs n)] U fun e w' => e = .returned (.tuple #[.agg (resV ((fndB (O.build g l) n).getD (0, []))), .bool (fndB (O.build g l) n).isSome]) ∧ Bl U w') := fun U n hU => by
            have h := built_x (O.build g l) a5 c5 n U (HBU.out.bl hU) (by simp [O.build]; omega)
            rw [show (O.build g l).length = g.2.length by simp [O.build]] at h
            exact h
          obtain ⟨tn, ti, tc⟩ := t
          simp only at *
          have HR : Hid (wr.rangeAt ab (aoff + k * 3) [.string (M.bs tn), .slice y ti.length c2, .string (M.bs tc)]) := hrw
          have HTS : Hid (TA.TS W y ti) := TA.ts_of hst
          rw [haa] at g1
          have hum : Tryz.prog.underlying 57 = some (.struct _) := Tryz.underlying57
          have hi := infoAc (tn, ti, tc) y c2
          have hem := fun U => emptyS U
          have HVA : Hid (Bl wr (wr.alloc (.cells #[.string (M.bs tn), .slice y ti.length c2, .string (M.bs tc)] 57))) := (Bl.refl wr).alloc _
          have HAC : Hid (∀ U, Bl (wr.alloc (.cells #[.string (M.bs tn), .slice y ti.length c2, .string (M.bs tc)] 57)) U → U.cell? ⟨wr.heap.size, 0, none⟩ = some (.string (M.bs tn)) ∧ U.cell? ⟨wr.heap.size, 1, none⟩ = some (.slice y ti.length c2) ∧ U.cell? ⟨wr.heap.size, 2, none⟩ = some (.string (M.bs tc))) := fun U hU => by
            have b0 := heap_alloc_new wr (.cells #[.string (M.bs tn), .slice y ti.length c2, .string (M.bs tc)] 57)
            have u0 := Below.block hU _ (TA.lt_heap b0)
            rw [b0] at u0
            exact ⟨by rw [Lib.cell_of_heap u0]; rfl, by rw [Lib.cell_of_heap u0]; rfl, by rw [Lib.cell_of_heap u0]; rfl⟩
          have HOW0 : Hid (((wr.alloc (.cells #[.string (M.bs tn), .slice y ti.length c2, .string (M.bs tc)] 57)).alloc (.cells #[] 9)).ownsRow (wr.alloc (.cells #[.string (M.bs tn), .slice y ti.length c2, .string (M.bs tc)] 57)).heap.size 9 1 (.slice (some ⟨wr.heap.size + 1, 0, none⟩) 0 0) 0 (flG lyT (((O.ins (O.baked g l) ti).take 0).map (·.2)))) := by
            have := TA.own_new (wr.alloc (.cells #[.string (M.bs tn), .slice y ti.length c2, .string (M.bs tc)] 57)) [] (by unfold maxLen; simp)
            rw [show (wr.alloc (.cells #[.string (M.bs tn), .slice y ti.length c2, .string (M.bs tc)] 57)).heap.size = wr.heap.size + 1 by simp] at this ⊢
            exact this
          have HB0 : Hid (Bl (wr.alloc (.cells #[.string (M.bs tn), .slice y ti.length c2, .string (M.bs tc)] 57)) ((wr.alloc (.cells #[.string (M.bs tn), .slice y ti.length c2, .string (M.bs tc)] 57)).alloc (.cells #[] 9))) := (Bl.refl _).alloc _
          clear hrw hrg hst hgk haa ht HGA HGK HN4 HOK
          go_wp2_with (refine wpList_load_mid rfl 57 _ rfl ab (aoff + k * 3) rfl [.string (M.bs tn), .slice y ti.length c2, .string (M.bs tc)] _ HR.out hum rfl hi ?_)
          have HW3 : Hid (Bl w3 (wr.alloc (.cells #[.string (M.bs tn), .slice y ti.length c2, .string (M.bs tc)] 57))) := HBR.out.step HVA.out
          have HWV : Hid (Bl W (wr.alloc (.cells #[.string (M.bs tn), .slice y ti.length c2, .string (M.bs tc)] 57))) := HWr.out.step HVA.out
          clear HVA HWr HBR g0 g1 HR
          generalize (wr.alloc (.cells #[.string (M.bs tn), .slice y ti.length c2, .string (M.bs tc)] 57)) = VA at *
          generalize wr.heap.size = nb at *
          have HL : Hid (∀ (j : Nat) (s : List UInt8), ti[j]? = some s → (O.ins (O.baked g l) ti)[j]? = some (O.gt (O.baked g l) s)) := fun j s hs => by unfold O.ins; rw [List.getElem?_map, hs]; rfl
          have HLL : Hid ((O.ins (O.baked g l) ti).length = ti.length) := by show _ = _; simp [O.ins]
          have HROL : Hid (∀ r ∈ O.ins (O.baked g l) ti, ReOk r) := fun r hr => by
            obtain ⟨s, _, rfl⟩ := List.mem_map.1 hr
            exact HRO.out s
          generalize O.ins (O.baked g l) ti = L at *
          go_loopw [9, 10, 11, 12, 13, 14, 15] (fun u9 u10 u11 u12 u13 u14 u15 wx => ∃ j : Nat, j ≤ ti.length ∧ u11 = .int .i64 j ∧ (∃ a9 c9, u9 = .slice a9 j c9) ∧ u10 = .bool (O.bad (L.take j)) ∧ wx.ownsRow VA.heap.size 9 1 u9 j (flG lyT ((L.take j).map (·.2))) ∧ Bl VA wx) (fun _ _ u11 _ _ _ _ _ => ti.length - (intOf u11).toNat)
          case atStart => exact ⟨0, Nat.zero_le _, rfl, ⟨_, _, rfl⟩, rfl, HOW0.out, HB0.out⟩
          case round =>
            obtain ⟨j, hj, rfl, ⟨a9, c9, rfl⟩, rfl, hown, hbx⟩ := hrel
            have HOW : Hid (wr.ownsRow VA.heap.size 9 1 (.slice a9 j c9) j (flG lyT ((L.take j).map (·.2)))) := hown
            have HBX : Hid (Bl VA wr) := hbx
            obtain ⟨d0, d1, d2⟩ := HAC.out wr hbx
            clear hown hbx HOW0 HB0
            by_cases hlj : j < ti.length
            · obtain ⟨s, hs⟩ : ∃ s, ti[j]? = some s := ⟨ti[j], List.getElem?_eq_getElem hlj⟩
              obtain ⟨b2, off2, rfl, hb2, hcell⟩ := (HTS.out.below HWV.out).below HBX.out j s hs
              have hLj := HL.out j s hs
              have HKL : Hid (j = ((L.take j).map (·.2)).length) := by show _ = _; rw [List.length_map, List.length_take, HLL.out]; omega
              have HTB := take_bad hLj
              have HTM : (L.take (j + 1)).map (·.2) = (L.take j).map (·.2) ++ [(O.gt (O.baked g l) s).2] := by rw [List.take_add_one, hLj]; simp
              have C1 := CS.out wr s (HWV.out.step HBX.out)
              rcases HIN.out s (List.mem_of_getElem? hs) with ⟨bb, hf, hgt⟩ | ⟨hf, hfb⟩
              · rw [hf] at C1
                have C1 : Hid (Calls Tryz.prog 24 #[.slice a l.length c, .string (M.bs s)] wr fun e w' => e = .returned (.tuple #[.string (M.bs bb), .bool true]) ∧ w' = wr) := C1
                rw [hgt] at HTB HTM
                have HB2 : Hid (O.bad (L.take (j + 1)) = O.bad (L.take j)) := by show _ = _; rw [HTB]; simp [O.isBad]
                have HM2 : Hid ((L.take (j + 1)).map (·.2) = (L.take j).map (·.2) ++ [bb]) := HTM
                generalize (L.take j).map (·.2) = KS at *
                clear hs hLj HTB HTM hf hgt HIN HL HTS
                generalize O.bad (L.take j) = q at *
                go_wp2_with (first
                  | (go_at_call 24; refine C1.out.mono ?_; clear C1; rintro e w' ⟨rfl, hw'⟩; rw [hw']; clear hw' w')
                  | (refine wl_app1G lyT (w := VA) (W := wr) 9 22 (.string ⟨#[]⟩) 16 undS infoS rfl (by omega) rfl _ _ rfl j KS HKL.out bb _ rfl HBX.out HOW.out rfl (by omega) ?_ _ rfl rfl; intro a' c' w8 h8 hb8 _))
                go_roundw
                case rel => exact ⟨j + 1, by omega, by go_num, ⟨_, _, rfl⟩, by rw [HB2.out], by rw [HM2.out]; exact h8, hb8⟩
                case measure => simp [intOf]; omega
              · rw [hf] at C1
                have C1 : Hid (Calls Tryz.prog 24 #[.slice a l.length c, .string (M.bs s)] wr fun e w' => e = .returned (.tuple #[.string ⟨#[]⟩, .bool false]) ∧ w' = wr) := C1
                have C2 := CBt.out wr s (HW3.out.step HBX.out)
                rw [hfb] at C2
                obtain ⟨⟨rc, rb⟩, hgt⟩ : ∃ r, O.gt (O.baked g l) s = r := ⟨_, rfl⟩
                rw [hgt] at HTB HTM C2
                have C2 : Hid (Calls Tryz.prog 25 #[.slice a5 g.2.length c5, .string (M.bs s)] wr fun e w' => e = .returned (.tuple #[.agg #[.int .i64 rc, .string (M.bs rb)], .bool true]) ∧ Bl wr w') := C2
                have HM2 : Hid ((L.take (j + 1)).map (·.2) = (L.take j).map (·.2) ++ [rb]) := HTM
                have HB2 : Hid (O.bad (L.take (j + 1)) = (O.bad (L.take j) || decide (rc ≠ 0))) := HTB
                generalize (L.take j).map (·.2) = KS at *
                have HDC : Hid (∀ U, Bl wr U → U.cell? ⟨nb, 1, none⟩ = some (.slice (some ⟨b2, off2, none⟩) ti.length c2) ∧ U.cell? ⟨b2, off2 + j, none⟩ = some (.string (M.bs s))) := fun U hU => ⟨(HAC.out U (HBX.out.step hU)).2.1, by rw [Bl.cell hU hb2]; exact hcell⟩
                clear hs hLj HTB HTM hf hfb hgt HIN HL HTS
                cases hq : O.bad (L.take j) with
                | true =>
                  rw [hq] at HB2
                  go_wp2_with (first
                    | (go_at_call 24; refine C1.out.mono ?_; clear C1; rintro e w' ⟨rfl, hw'⟩; rw [hw']; clear hw' w')
                    | (go_at_call 25; refine C2.out.mono ?_; clear C2; rintro e w6 ⟨rfl, H6⟩; replace H6 : Hid (Bl wr w6) := H6; have H7 : Hid (Bl wr (w6.alloc (.cells #[.int .i64 rc, .string (M.bs rb)] 46))) := H6.out.alloc _; have HSZ : Hid ((w6.alloc (.cells #[.int .i64 rc, .string (M.bs rb)] 46)).heap.size = w6.heap.size + 1) := (by show _ = _; simp))
                    | (refine wl_app1G lyT (w := VA) (W := w6.alloc (.cells #[.int .i64 rc, .string (M.bs rb)] 46)) 9 22 (.string ⟨#[]⟩) 16 undS infoS rfl (by omega) rfl _ _ rfl j KS HKL.out rb _ rfl (HBX.out.step H7.out) (ownsRow_bl HOW.out H7.out) (by rw [HSZ.out]; rfl) (by omega) ?_ _ rfl rfl; intro a' c' w8 h8 hb8 _))
                  go_roundw
                  case rel => exact ⟨j + 1, by omega, by go_num, ⟨_, _, rfl⟩, by rw [HB2.out]; rfl, by rw [HM2.out]; exact h8, hb8⟩
                  case measure => simp [intOf]; omega
                | false =>
                  rw [hq] at HB2
                  by_cases hrc : rc = 0
                  · subst hrc
                    go_wp2_with (first
                      | (go_at_call 24; refine C1.out.mono ?_; clear C1; rintro e w' ⟨rfl, hw'⟩; rw [hw']; clear hw' w')
                      | (go_at_call 25; refine C2.out.mono ?_; clear C2; rintro e w6 ⟨rfl, H6⟩; replace H6 : Hid (Bl wr w6) := H6; have H7 : Hid (Bl wr (w6.alloc (.cells #[.int .i64 0, .string (M.bs rb)] 46))) := H6.out.alloc _; have HSZ : Hid ((w6.alloc (.cells #[.int .i64 0, .string (M.bs rb)] 46)).heap.size = w6.heap.size + 1) := (by show _ = _; simp))
                      | (refine wl_app1G lyT (w := VA) (W := w6.alloc (.cells #[.int .i64 0, .string (M.bs rb)] 46)) 9 22 (.string ⟨#[]⟩) 16 undS infoS rfl (by omega) rfl _ _ rfl j KS HKL.out rb _ rfl (HBX.out.step H7.out) (ownsRow_bl HOW.out H7.out) (by rw [HSZ.out]; rfl) (by omega) ?_ _ rfl rfl; intro a' c' w8 h8 hb8 _))
                    go_roundw
                    case rel => exact ⟨j + 1, by omega, by go_num, ⟨_, _, rfl⟩, by rw [HB2.out]; rfl, by rw [HM2.out]; exact h8, hb8⟩
                    case measure => simp [intOf]; omega
                  · have hrci : (rc != 0) = true := by simpa using hrc
                    have HB3 : Hid (O.bad (L.take (j + 1)) = true) := by show _ = _; rw [HB2.out]; simp [hrc]
                    clear hrc HB2
                    go_wp2_with (first
                      | (go_at_call 24; refine C1.out.mono ?_; clear C1; rintro e w' ⟨rfl, hw'⟩; rw [hw']; clear hw' w')
                      | (go_at_call 25; refine C2.out.mono ?_; clear C2; rintro e w6 ⟨rfl, H6⟩; replace H6 : Hid (Bl wr w6) := H6; have H7 : Hid (Bl wr (w6.alloc (.cells #[.int .i64 rc, .string (M.bs rb)] 46))) := H6.out.alloc _; have HSZ : Hid ((w6.alloc (.cells #[.int .i64 rc, .string (M.bs rb)] 46)).heap.size = w6.heap.size + 1) := (by show _ = _; simp))
                      | (refine wl_app1G lyT (w := VA) (W := w6.alloc (.cells #[.int .i64 rc, .string (M.bs rb)] 46)) 9 22 (.string ⟨#[]⟩) 16 undS infoS rfl (by omega) rfl _ _ rfl j KS HKL.out rb _ rfl (HBX.out.step H7.out) (ownsRow_bl HOW.out H7.out) (by rw [HSZ.out]; rfl) (by omega) ?_ _ rfl rfl; intro a' c' w8 h8 hb8 _))
                    go_roundw
                    case rel => exact ⟨j + 1, by omega, by go_num, ⟨_, _, rfl⟩, by rw [HB3.out], by rw [HM2.out]; exact h8, hb8⟩
                    case measure => simp [intOf]; omega
            · obtain rfl : j = ti.length := by omega
              have hall : L.take ti.length = L := by rw [← HLL.out]; exact List.take_length
              rw [hall] at HOW ⊢
              have HRS : RS lyT wr a9 (L.map (·.2)) := by
                have h := HOW.out
                have h' : wr.ownsRow VA.heap.size 9 lyT.k (.slice a9 ti.length c9) (L.map (·.2)).length (flG lyT (L.map (·.2))) := by rw [List.length_map, HLL.out]; exact h
                obtain ⟨x, y, e, hrs⟩ := owns_rs lyT h'
                simp only [Value.slice.injEq] at e
                rw [e.1]; exact hrs
              have C7 := CR.out wr tc (L.map (·.2)) a9 c9 (HWV.out.step HBX.out) HRS m2 (by rw [List.length_map, HLL.out]; omega) (fun t ht => by
                obtain ⟨r, hr, rfl⟩ := List.mem_map.1 ht
                exact (HROL.out r hr).l)
              rw [List.length_map, HLL.out] at C7
              have C7 : Hid (Calls Tryz.prog 26 #[.string (M.bs tc), .slice a9 ti.length c9] wr fun e w' => e = .returned (.tuple #[.agg #[.int .i64 ((Q.run tc (L.map (·.2))).code : Int), .string (M.bs (Q.run tc (L.map (·.2))).blob)], .int .i64 ((Q.run tc (L.map (·.2))).n : Int)]) ∧ Bl wr w') := C7
              obtain ⟨b5, o5, rfl, hb5, hr5⟩ := HBU.out k _ HOT.out
              have O5 : Hid (∀ U, Bl w3 U → U.cell? ⟨b5, o5 + k * 3, none⟩ = some (.string (M.bs tn)) ∧ U.cell? ⟨b5, o5 + k * 3 + 1, none⟩ = some (.int .i64 (O.gt (O.baked g l) tn).1) ∧ U.cell? ⟨b5, o5 + k * 3 + 1 + 1, none⟩ = some (.string (M.bs (O.gt (O.baked g l) tn).2))) := fun U hU => ⟨by rw [Bl.cell hU hb5]; exact hr5 0 _ rfl, by rw [Bl.cell hU hb5]; exact hr5 1 _ rfl, by rw [Bl.cell hU hb5]; exact hr5 2 _ rfl⟩
              rw [HGT.out] at O5
              clear HRS hall HTS HL HIN HROL hr5 HGT HOT
              cases hbad : O.bad L with
              | true =>
                have e : O.mk tc L = (34, []) := by unfold O.mk; rw [if_pos hbad]
                rw [e] at O5
                have O5 : Hid (∀ U, Bl w3 U → U.cell? ⟨b5, o5 + k * 3, none⟩ = some (.string (M.bs tn)) ∧ U.cell? ⟨b5, o5 + k * 3 + 1, none⟩ = some (.int .i64 34) ∧ U.cell? ⟨b5, o5 + k * 3 + 1 + 1, none⟩ = some (.string ⟨#[]⟩)) := O5
                have hEQ : ∀ U, (Op.equalIn 10000 46 (.agg #[.int .i64 34, .string ⟨#[]⟩]) (.agg #[.int .i64 34, .string ⟨#[]⟩])).run Tryz.prog U = .ok true U := fun U => by
                  have := eqRe 34 34 [] [] U
                  rw [show decide ((34 : Int) = 34 ∧ ([] : List UInt8) = []) = true by simp] at this
                  exact this
                clear e
                go_wp2_with (go_at_call 26; refine C7.out.mono ?_; clear C7; rintro e w7 ⟨rfl, H7⟩)
                obtain ⟨p0, p1, p2⟩ := O5.out (w7.alloc (.cells #[.int .i64 34, .string ⟨#[]⟩] 46)) ((HW3.out.step HBX.out).step (H7.alloc _))
                obtain ⟨e0, _, _⟩ := HAC.out (w7.alloc (.cells #[.int .i64 34, .string ⟨#[]⟩] 46)) (HBX.out.step (H7.alloc _))
                have r0 : (w7.alloc (.cells #[.int .i64 34, .string ⟨#[]⟩] 46)).cell? ⟨w7.heap.size, 0, none⟩ = some (.int .i64 34) := by rw [Lib.cell_of_heap (heap_alloc_new w7 _)]; rfl
                have r1 : (w7.alloc (.cells #[.int .i64 34, .string ⟨#[]⟩] 46)).cell? ⟨w7.heap.size, 1, none⟩ = some (.string ⟨#[]⟩) := by rw [Lib.cell_of_heap (heap_alloc_new w7 _)]; rfl
                have HF9 : Hid (Bl w3 (w7.alloc (.cells #[.int .i64 34, .string ⟨#[]⟩] 46))) := (HW3.out.step HBX.out).step (H7.alloc _)
                clear H7
                generalize (w7.alloc (.cells #[.int .i64 34, .string ⟨#[]⟩] 46)) = V9 at *
                go_region
                go_wp2_with fail
                go_roundw
                case rel => exact ⟨k + 1, by omega, by go_num, HF9.out.drewN 1⟩
                case measure => simp [intOf]; omega
              | false =>
                have e : O.mk tc L = (((Q.run tc (L.map (·.2))).code : Int), (Q.run tc (L.map (·.2))).blob) := by unfold O.mk; rw [hbad]; rfl
                rw [e] at O5
                have hro := run_ok tc (L.map (·.2))
                generalize Q.run tc (L.map (·.2)) = R at *
                have O5 : Hid (∀ U, Bl w3 U → U.cell? ⟨b5, o5 + k * 3, none⟩ = some (.string (M.bs tn)) ∧ U.cell? ⟨b5, o5 + k * 3 + 1, none⟩ = some (.int .i64 (R.code : Int)) ∧ U.cell? ⟨b5, o5 + k * 3 + 1 + 1, none⟩ = some (.string (M.bs R.blob))) := O5
                have hEQ : ∀ U, (Op.equalIn 10000 46 (.agg #[.int .i64 (R.code : Int), .string (M.bs R.blob)]) (.agg #[.int .i64 (R.code : Int), .string (M.bs R.blob)])).run Tryz.prog U = .ok true U := fun U => by
                  have := eqRe R.code R.code R.blob R.blob U
                  simpa using this
                clear e
                go_wp2_with (go_at_call 26; refine C7.out.mono ?_; clear C7; rintro e w7 ⟨rfl, H7⟩)
                obtain ⟨p0, p1, p2⟩ := O5.out (w7.alloc (.cells #[.int .i64 (R.code : Int), .string (M.bs R.blob)] 46)) ((HW3.out.step HBX.out).step (H7.alloc _))
                obtain ⟨e0, _, _⟩ := HAC.out (w7.alloc (.cells #[.int .i64 (R.code : Int), .string (M.bs R.blob)] 46)) (HBX.out.step (H7.alloc _))
                have r0 : (w7.alloc (.cells #[.int .i64 (R.code : Int), .string (M.bs R.blob)] 46)).cell? ⟨w7.heap.size, 0, none⟩ = some (.int .i64 (R.code : Int)) := by rw [Lib.cell_of_heap (heap_alloc_new w7 _)]; rfl
                have r1 : (w7.alloc (.cells #[.int .i64 (R.code : Int), .string (M.bs R.blob)] 46)).cell? ⟨w7.heap.size, 1, none⟩ = some (.string (M.bs R.blob)) := by rw [Lib.cell_of_heap (heap_alloc_new w7 _)]; rfl
                have HF9 : Hid (Bl w3 (w7.alloc (.cells #[.int .i64 (R.code : Int), .string (M.bs R.blob)] 46))) := (HW3.out.step HBX.out).step (H7.alloc _)
                clear H7
                generalize (w7.alloc (.cells #[.int .i64 (R.code : Int), .string (M.bs R.blob)] 46)) = V9 at *
                go_region
                go_wp2_with fail
                go_roundw
                case rel => exact ⟨k + 1, by omega, by go_num, HF9.out.drewN 1⟩
                case measure => simp [intOf]; omega
        · obtain rfl : k = g.2.length := by omega
          go_wp2_with fail
          go_ret
          exact ⟨rfl, FIN.out _ (HZ3.out.step HBR.out)⟩
    · have CB2 : Hid (∀ U, Bl (W.alloc (.cells #[.slice sa g.1.length sc, .slice aa g.2.length ac] 25)) U → Calls Tryz.prog 11 #[.agg #[.slice sa g.1.length sc, .slice aa g.2.length ac], .slice a l.length c] U fun e w' => e = .returned (.tuple #[.slice none 0 0, .int .i64 (O.err g l : Int)]) ∧ Bl (W.alloc (.cells #[.slice sa g.1.length sc, .slice aa g.2.length ac] 25)) w') := fun U hU => by
        refine (CB.out U hU).mono ?_
        rintro e w' (⟨_, rfl, h⟩ | ⟨a5, c5, h, _⟩)
        · exact ⟨rfl, hU.step h⟩
        · exact absurd h h0
      have h0i : ((O.err g l : Int) != 0) = true := by simp; omega
      clear hG hT HB hg hk hv hln n3 n4 n6 CB
      go_enter Tryz.func5, Tryz.ntmps5
      go_wp2_with (first
        | (go_at_call 9; refine CA.out.mono ?_; clear CA; rintro e w1 ⟨rfl, H1⟩; obtain ⟨f0, f1⟩ := HFA.out w1 H1)
        | (go_at_call 10; refine (CG.out w1 H1).mono ?_; clear CG; rintro e w2 ⟨rfl, H2⟩; obtain ⟨g0, g1⟩ := HFA.out w2 H2)
        | (go_at_call 11; refine (CB2.out w2 H2).mono ?_; clear CB2; rintro e w3 ⟨rfl, H3⟩))
      go_ret
      exact ⟨rfl, FIN.out _ H3⟩
end Go.Proofs.YtlblbdfpcaplkaaGreatDoor
