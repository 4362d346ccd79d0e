/- OvenClean: the walk. -/
import Derived.Test.YtoehdohibdpgnaaGreatDoorCl0
import Derived.Test.YtoehdohibdpgnaaGreatDoorAw9
import Derived.Test.YtoehdohibdpgnaaGreatDoorGre9
import Derived.Test.YtoehdohibdpgnaaGreatDoorRegT
import Derived.Deep.CutBlock
import Derived.Deep.DeepCutAuto
namespace Go.Proofs.YtoehdohibdpgnaaGreatDoor
open Go.RowKit
set_option linter.unusedVariables false
set_option linter.unusedSimpArgs false

theorem hidC {p : Prop} (h : p) : Hid p := h
theorem flT_map : ∀ ks : List (List UInt8), flG lyT ks = ks.map encS
  | [] => rfl
  | x :: r => by
    have ih := flT_map r
    unfold flG at ih ⊢
    rw [List.flatMap_cons, ih]; rfl
theorem rs_of_ts {W : World} {a : Option Addr} {l : List (List UInt8)} (h : TA.TS W a l) : RS lyT W a l := fun i x hx => by
  obtain ⟨b, off, h1, h2, h3⟩ := h i x hx
  refine ⟨b, off, h1, h2, fun j v hv => ?_⟩
  match j, hv with
  | 0, hv => simp [lyT] at hv; subst hv; show W.cell? ⟨b, off + i * 1 + 0, none⟩ = _; rw [Nat.mul_one, Nat.add_zero]; exact h3
/-- all that is there when the law compares -/
structure CW (g : RC.Gr) (l m : List O.So) (d : List Nat) (a5 a6 a7 a8 a9 : Option Addr) (W : World) : Prop where
  b1 : RS lyB W a5 (O.build g l)
  k1 : RS lyD W a6 (O.keys g l)
  b2 : RS lyB W a7 (O.build g m)
  k2 : RS lyD W a8 (O.keys g m)
  d : IA W a9 d
theorem IA.blC {w W : World} {a : Option Addr} {l : List Nat} (h : IA w a l) (hb : Bl w W) : IA W a l := fun i x hx => by
  obtain ⟨b, off, h1, h2, h3⟩ := h i x hx
  exact ⟨b, off, h1, by have := Below.size hb; omega, by rw [Bl.cell hb h2]; exact h3⟩
theorem CW.grow {g : RC.Gr} {l m : List O.So} {d : List Nat} {a5 a6 a7 a8 a9 : Option Addr} {W W' : World} (h : CW g l m d a5 a6 a7 a8 a9 W) (hb : Bl W W') : CW g l m d a5 a6 a7 a8 a9 W' := ⟨h.b1.bl hb, h.k1.bl hb, h.b2.bl hb, h.k2.bl hb, h.d.blC hb⟩
theorem keyA_len (m : O.Mp) (a : RC.Ac) : (O.keyA m a).length = 32 := by
  unfold O.keyA
  split
  · simp [O.zd]
  · unfold O.key; exact S.sha_length _
/-- a row of nothing -/
theorem own_emptyB (W : World) (B : Nat) (T : TypeId) (k : Nat) (hB : B ≤ W.heap.size) : (W.alloc (.cells #[] T)).ownsRow B T k (.slice (some ⟨W.heap.size, 0, none⟩) 0 0) 0 [] :=
  ⟨by simp, Or.inr ⟨W.heap.size, 0, #[], rfl, hB, heap_alloc_new W _, Nat.le_refl _, by decide, by simp, by simp⟩⟩
theorem own_tagC {W : World} {N k n g : Nat} {T : TypeId} {v : Value} {xs : List Value} (h : W.ownsRow N T k v n xs) (hg : v.ownBlock = some g) : ∃ C, W.heap[g]? = some (.cells C T (0, 0)) := by
  obtain ⟨_, ⟨h1, h2⟩ | ⟨g', cap', cur, h1, _, h3, _⟩⟩ := h
  · subst h1; cases hg
  · subst h1; cases hg; exact ⟨cur, h3⟩
/-- rows of unlike types never meet -/
theorem own_apart {W W' : World} {N N' k k' n n' : Nat} {T T' : TypeId} {v v' : Value} {xs xs' : List Value} (h : W.ownsRow N T k v n xs) (h' : W.ownsRow N' T' k' v' n' xs') (hne : T ≠ T') (hg : W.grownBy W' v'.ownBlock) : W'.ownsRow N T k v n xs := by
  obtain ⟨h0, h1 | ⟨g, cap, cur, h1, h2, h3, h4⟩⟩ := h
  · exact ⟨h0, Or.inl h1⟩
  · refine ⟨h0, Or.inr ⟨g, cap, cur, h1, h2, ?_, h4⟩⟩
    rw [hg.block g (TA.lt_heap h3) (fun e => ?_)]
    · exact h3
    · obtain ⟨D, hD⟩ := own_tagC h' e.symm
      rw [h3] at hD
      have := Option.some.inj hD
      injection this with _ h5
      exact hne h5
/-- in the middle of the law's first loop -/
structure CL (w4 : World) (l : List O.So) (now : List (List UInt8)) (m0 : Option Addr) (mc : Nat) (k : Nat) (u : Value) (wr : World) : Prop where
  bl : Bl w4 wr
  m : wr.ownsRow w4.heap.size 39 2 (.slice m0 l.length mc) l.length (flG lyS (nwL l now k))
  n : wr.ownsRow w4.heap.size 9 1 u (nmN l now k).length (flG lyT (nmN l now k))
theorem CL.grow {w4 wr wx : World} {l : List O.So} {now : List (List UInt8)} {m0 : Option Addr} {mc k : Nat} {u : Value} (h : CL w4 l now m0 mc k u wr) (hb : Bl wr wx) : CL w4 l now m0 mc k u wx := ⟨h.bl.step hb, ownsRow_bl h.m hb, ownsRow_bl h.n hb⟩
theorem CL.skip {w4 wr : World} {l : List O.So} {now : List (List UInt8)} {m0 : Option Addr} {mc k : Nat} {u : Value} (h : CL w4 l now m0 mc k u wr) {x : O.So} {b : List UInt8} (hx : l[k]? = some x) (hb : now[k]? = some b) (hi : isN x b = false) : CL w4 l now m0 mc (k + 1) u wr := by
  have e1 : nwL l now (k + 1) = nwL l now k := by rw [nwL_succ hx hb, hi]; rfl
  have e2 : nmN l now (k + 1) = nmN l now k := by rw [nmN_succ hx hb, hi]; rfl
  exact ⟨h.bl, by rw [e1]; exact h.m, by rw [e2]; exact h.n⟩
/-- a blob is written anew -/
theorem CL.set {w4 wr : World} {l : List O.So} {now : List (List UInt8)} {g mc k : Nat} {u : Value} (h : CL w4 l now (some ⟨g, 0, none⟩) mc k u wr) {x : O.So} {b : List UInt8} (hx : l[k]? = some x) (hb : now[k]? = some b) (hi : isN x b = true) :
    wr.frozen? ⟨g, k * 2 + 1, none⟩ = false ∧ Bl w4 (wr.setCell ⟨g, k * 2 + 1, none⟩ (.string (M.bs b))) ∧ (wr.setCell ⟨g, k * 2 + 1, none⟩ (.string (M.bs b))).ownsRow w4.heap.size 39 2 (.slice (some ⟨g, 0, none⟩) l.length mc) l.length (flG lyS (nwL l now (k + 1))) ∧ (wr.setCell ⟨g, k * 2 + 1, none⟩ (.string (M.bs b))).ownsRow w4.heap.size 9 1 u (nmN l now k).length (flG lyT (nmN l now k)) := by
  obtain ⟨r1, r2, r3, r4⟩ := own_setC (nwL_len l now k).symm h.m (by rw [nwL_at l now k k (Nat.le_refl _)]; exact hx) b
  have hg := grown_setC wr g (k * 2 + 1) (.string (M.bs b))
  refine ⟨r3, ⟨h.bl.os, h.bl.tape, h.bl.output, Nat.le_trans h.bl.size hg.size, fun j hj => (hg.block j (Nat.lt_of_lt_of_le hj h.bl.size) (fun e => by have e2 : j = g := Option.some.inj e; omega)).trans (h.bl.block j hj)⟩, ?_, own_apart h.n h.m (by decide) hg⟩
  rw [nwL_succ hx hb, if_pos hi]; exact r4
set_option maxRecDepth 8000 in
set_option maxHeartbeats 16000000 in
theorem clean_walk (g : RC.Gr) (l : List O.So) (sa : Option Addr) (sc : Nat) (aa : Option Addr) (ac : Nat) (a : Option Addr) (c : Nat) (now : List (List UInt8)) (na : Option Addr) (nc : Nat) {w W : World} (hG : GW w) (hT : Tab w) (HB : Bl w W) (hg : GA W.heap.size W g sa sc aa ac) (hk : grOk g) (hv : RS lyS W a l) (hl : l.length ≤ maxLen) (hln : ∀ s ∈ l, s.1.length ≤ maxLen ∧ s.2.length ≤ maxLen) (hnv : RS lyT W na now) (hnl : now.length ≤ maxLen) (hnt : ∀ t ∈ now, t.length ≤ maxLen) :
    Calls Tryz.prog 3 #[.agg #[.slice sa g.1.length sc, .slice aa g.2.length ac], .slice a l.length c, .slice na now.length nc] W fun e w' => e = .returned (.bool true) ∧ Bl w w' := by
  have HWZ : Hid (Bl W (W.alloc (.cells #[.slice sa g.1.length sc, .slice aa g.2.length ac] 25))) := (Bl.refl W).alloc _
  have CA : Hid (Calls Tryz.prog 4 #[] (W.alloc (.cells #[.slice sa g.1.length sc, .slice aa g.2.length ac] 25)) fun e w' => e = .returned (.bool true) ∧ Bl (W.alloc (.cells #[.slice sa g.1.length sc, .slice aa g.2.length ac] 25)) w') := awake_9 (hG.below (HB.step HWZ.out) hG.z) (hT.below (HB.step HWZ.out)) (Bl.refl _)
  have HFA : Hid (∀ U, Bl (W.alloc (.cells #[.slice sa g.1.length sc, .slice aa g.2.length ac] 25)) U → U.cell? ⟨W.heap.size, 0, none⟩ = some (.slice sa g.1.length sc) ∧ U.cell? ⟨W.heap.size, 1, none⟩ = some (.slice aa g.2.length ac)) := fun U hU => by
    have b0 := heap_alloc_new W (.cells #[.slice sa g.1.length sc, .slice aa g.2.length ac] 25)
    have u0 := Below.block hU _ (TA.lt_heap b0)
    rw [b0] at u0
    exact ⟨by rw [Lib.cell_of_heap u0]; rfl, by rw [Lib.cell_of_heap u0]; rfl⟩
  have CG : Hid (∀ U, Bl (W.alloc (.cells #[.slice sa g.1.length sc, .slice aa g.2.length ac] 25)) U → Calls Tryz.prog 5 #[.agg #[.slice sa g.1.length sc, .slice aa g.2.length ac], .slice a l.length c] U fun e w' => e = .returned (.bool (greatB g l)) ∧ Bl (W.alloc (.cells #[.slice sa g.1.length sc, .slice aa g.2.length ac] 25)) w') := fun U hU => great_x g sa sc aa ac hU (hg.bl (HWZ.out.step hU)) hk l a c (hv.bl (HWZ.out.step hU)) hln hl
  have FIN : Hid (∀ U, Bl (W.alloc (.cells #[.slice sa g.1.length sc, .slice aa g.2.length ac] 25)) U → Bl w U) := fun U hU => (HB.step HWZ.out).step hU
  unfold maxLen at hnl
  cases hgr : greatB g l with
  | true =>
    rw [hgr] at CG
    clear hG hT HB hg hk hv hln hnv
    go_enter Tryz.func3, Tryz.ntmps3
    go_wp2_with (first
      | go_skip
      | (go_at_call 4; refine CA.out.mono ?_; clear CA; rintro e w1 ⟨rfl, H1⟩; obtain ⟨f0, f1⟩ := HFA.out w1 H1)
      | (go_at_call 5; refine (CG.out w1 H1).mono ?_; clear CG; rintro e w2 ⟨rfl, H2⟩))
    go_ret
    exact ⟨rfl, FIN.out _ H2⟩
  | false =>
    rw [hgr] at CG
    by_cases h30 : now.length > 30
    · have h30i : (now.length : Int) > 30 := by omega
      clear hG hT HB hg hk hv hln hnv
      go_enter Tryz.func3, Tryz.ntmps3
      go_wp2_with (first
        | go_skip
        | (go_at_call 4; refine CA.out.mono ?_; clear CA; rintro e w1 ⟨rfl, H1⟩; obtain ⟨f0, f1⟩ := HFA.out w1 H1)
        | (go_at_call 5; refine (CG.out w1 H1).mono ?_; clear CG; rintro e w2 ⟨rfl, H2⟩))
      go_ret
      exact ⟨rfl, FIN.out _ H2⟩
    have h30i : ¬ ((now.length : Int) > 30) := by omega
    obtain ⟨n1, n2, n3, n4, n5, n6⟩ := great_not hgr
    have CB : Hid (∀ U, Bl (W.alloc (.cells #[.slice sa g.1.length sc, .slice aa g.2.length ac] 25)) U → Calls Tryz.prog 6 #[.agg #[.slice sa g.1.length sc, .slice aa g.2.length ac], .slice a l.length c] U (BuP g l U)) := fun U hU =>
      Build_x g l sa sc aa ac a c hG hT (FIN.out U hU) (hg.bl (HWZ.out.step hU)) hk (hv.bl (HWZ.out.step hU)) (by omega) (fun s hs => (hln s hs).1) (fun s hs => by have := (n6 s hs).2; omega)
    have CK : Hid (∀ U, Bl (W.alloc (.cells #[.slice sa g.1.length sc, .slice aa g.2.length ac] 25)) U → Calls Tryz.prog 7 #[.agg #[.slice sa g.1.length sc, .slice aa g.2.length ac], .slice a l.length c] U (KeP g l U)) := fun U hU =>
      Keys_x g l sa sc aa ac a c hG hT (FIN.out U hU) (hg.bl (HWZ.out.step hU)) hk (hv.bl (HWZ.out.step hU)) (by omega) (fun s hs => (hln s hs).1) (fun s hs => by have := (n6 s hs).2; omega)
    by_cases h0 : O.err g l = 0
    · have HOK : Hid (O.Ok g l) := O.err_zero.1 h0
      have hle := HOK.out.good.le
      have CB2 : Hid (∀ U, Bl (W.alloc (.cells #[.slice sa g.1.length sc, .slice aa g.2.length ac] 25)) U → Calls Tryz.prog 6 #[.agg #[.slice sa g.1.length sc, .slice aa g.2.length ac], .slice a l.length c] U fun e w' => ∃ a5 c5, e = .returned (.tuple #[.slice a5 g.2.length c5, .int .i64 0]) ∧ RS lyB w' a5 (O.build g l) ∧ Bl U w') := fun U hU => by
        refine (CB.out U hU).mono ?_
        rintro e w' (⟨h, _⟩ | ⟨a5, c5, _, rfl, h1, h2⟩)
        · exact absurd h0 h
        · exact ⟨a5, c5, rfl, h1, h2⟩
      have CK2 : Hid (∀ U, Bl (W.alloc (.cells #[.slice sa g.1.length sc, .slice aa g.2.length ac] 25)) U → Calls Tryz.prog 7 #[.agg #[.slice sa g.1.length sc, .slice aa g.2.length ac], .slice a l.length c] U fun e w' => ∃ a5 c5, e = .returned (.tuple #[.slice a5 g.2.length c5, .int .i64 0]) ∧ RS lyD w' a5 (O.keys g l) ∧ Bl U w') := fun U hU => by
        refine (CK.out U hU).mono ?_
        rintro e w' (⟨h, _⟩ | ⟨a5, c5, _, rfl, h1, h2⟩)
        · exact absurd h0 h
        · exact ⟨a5, c5, rfl, h1, h2⟩
      have HNM : Hid (∀ k, ∀ s ∈ nwL l now k, s.1.length ≤ maxLen ∧ s.2.length ≤ 512) := fun k s hs => by
        refine ⟨?_, nwL_512 l now HOK.out.blob k s hs⟩
        have h1 : s.1 ∈ O.nms (nwL l now k) := List.mem_map.2 ⟨s, hs, rfl⟩
        rw [nwL_nms] at h1
        obtain ⟨x, hx, e⟩ := List.mem_map.1 h1
        rw [← e]; exact (hln x hx).1
      have CB3 : Hid (∀ U k a5 c5, Bl (W.alloc (.cells #[.slice sa g.1.length sc, .slice aa g.2.length ac] 25)) U → RS lyS U a5 (nwL l now k) → Calls Tryz.prog 6 #[.agg #[.slice sa g.1.length sc, .slice aa g.2.length ac], .slice a5 l.length c5] U fun e w' => ∃ a7 c7, e = .returned (.tuple #[.slice a7 g.2.length c7, .int .i64 0]) ∧ RS lyB w' a7 (O.build g (nwL l now k)) ∧ Bl U w') := fun U k a5 c5 hU hr => by
        have := Build_x g (nwL l now k) sa sc aa ac a5 c5 hG hT (FIN.out U hU) (hg.bl (HWZ.out.step hU)) hk hr (by rw [nwL_len]; omega) (fun s hs => (HNM.out k s hs).1) (fun s hs => by have := (HNM.out k s hs).2; omega)
        rw [nwL_len] at this
        refine this.mono ?_
        rintro e w' (⟨h, _⟩ | ⟨a5, c5, _, rfl, h1, h2⟩)
        · exact absurd (O.err_zero.2 (nwL_ok HOK.out now k)) h
        · exact ⟨a5, c5, rfl, h1, h2⟩
      have CK3 : Hid (∀ U k a5 c5, Bl (W.alloc (.cells #[.slice sa g.1.length sc, .slice aa g.2.length ac] 25)) U → RS lyS U a5 (nwL l now k) → Calls Tryz.prog 7 #[.agg #[.slice sa g.1.length sc, .slice aa g.2.length ac], .slice a5 l.length c5] U fun e w' => ∃ a7 c7, e = .returned (.tuple #[.slice a7 g.2.length c7, .int .i64 0]) ∧ RS lyD w' a7 (O.keys g (nwL l now k)) ∧ Bl U w') := fun U k a5 c5 hU hr => by
        have := Keys_x g (nwL l now k) sa sc aa ac a5 c5 hG hT (FIN.out U hU) (hg.bl (HWZ.out.step hU)) hk hr (by rw [nwL_len]; omega) (fun s hs => (HNM.out k s hs).1) (fun s hs => by have := (HNM.out k s hs).2; omega)
        rw [nwL_len] at this
        refine this.mono ?_
        rintro e w' (⟨h, _⟩ | ⟨a5, c5, _, rfl, h1, h2⟩)
        · exact absurd (O.err_zero.2 (nwL_ok HOK.out now k)) h
        · exact ⟨a5, c5, rfl, h1, h2⟩
      have CD : Hid (∀ U (xs : List (List UInt8)) xa xc, Bl (W.alloc (.cells #[.slice sa g.1.length sc, .slice aa g.2.length ac] 25)) U → Strs U.heap.size U (.slice xa xs.length xc) xs → xs.length ≤ 30 → Calls Tryz.prog 8 #[.agg #[.slice sa g.1.length sc, .slice aa g.2.length ac], .slice xa xs.length xc] U fun e w' => ∃ a c, e = .returned (.slice a (drL g xs).length c) ∧ IA w' a (drL g xs) ∧ Bl U w') := fun U xs xa xc hU hx hn => Dirty_x g sa sc aa ac xs xa xc (Bl.refl U) (hg.bl (HWZ.out.step hU)) hk hx (by unfold maxLen; omega)
      have HLV : Hid (∀ U, Bl (W.alloc (.cells #[.slice sa g.1.length sc, .slice aa g.2.length ac] 25)) U → RS lyS U a l) := fun U hU => hv.bl (HWZ.out.step hU)
      have HNV : Hid (∀ U, Bl (W.alloc (.cells #[.slice sa g.1.length sc, .slice aa g.2.length ac] 25)) U → RS lyT U na now) := fun U hU => hnv.bl (HWZ.out.step hU)
      have HNT := hidC hnt
      have HNB : Hid (∀ (k : Nat) t, now[k]? = some t → ∀ b off, na = some ⟨b, off, none⟩ → b < W.heap.size) := fun k t ht b off e => by
        obtain ⟨b', o', e', hb', _⟩ := hnv k t ht
        rw [e] at e'; cases e'; exact hb'
      clear hG hT HB hg hk hv hln n3 n4 n6 CB CK hnv hnt HNM
      go_enter Tryz.func3, Tryz.ntmps3
      go_upto_region 9 with (first
        | go_skip
        | (go_at_call 4; refine CA.out.mono ?_; clear CA; rintro e w1 ⟨rfl, H1⟩; obtain ⟨f0, f1⟩ := HFA.out w1 H1)
        | (go_at_call 5; refine (CG.out w1 H1).mono ?_; clear CG; rintro e w2 ⟨rfl, H2⟩; obtain ⟨g0, g1⟩ := HFA.out w2 H2)
        | (go_at_call 6; refine (CB2.out w2 H2).mono ?_; clear CB2; rintro e w3 ⟨a5, c5, rfl, hbu, HB3⟩; have H3 := H2.step HB3; obtain ⟨k0, k1⟩ := HFA.out w3 H3)
        | (go_at_call 7; refine (CK2.out w3 H3).mono ?_; clear CK2; rintro e w4 ⟨a6, c6, rfl, hke, HB4⟩; have H4 := H3.step HB4))
      have HBU : Hid (RS lyB w4 a5 (O.build g l) ∧ RS lyD w4 a6 (O.keys g l)) := ⟨hbu.bl HB4, hke⟩
      have HZ4 := hidC H4
      clear f0 f1 g0 g1 k0 k1 hbu hke H1 H2 H3 H4 HB3 HB4
      have OW0 : Hid (((w4.alloc (.cells #[] 9)).alloc (.cells #[] 39)).ownsRow w4.heap.size 39 2 (.slice (some ⟨w4.heap.size + 1, 0, none⟩) 0 0) ([] : List O.So).length (flG lyS [])) := by
        have := own_emptyB (w4.alloc (.cells #[] 9)) w4.heap.size 39 2 (by simp)
        rw [show (w4.alloc (.cells #[] 9)).heap.size = w4.heap.size + 1 by simp] at this
        exact this
      have ON0 : Hid (((w4.alloc (.cells #[] 9)).alloc (.cells #[] 39)).ownsRow w4.heap.size 9 1 (.slice (some ⟨w4.heap.size, 0, none⟩) 0 0) 0 []) := ownsRow_bl (own_emptyB w4 w4.heap.size 9 1 (Nat.le_refl _)) ((Bl.refl _).alloc _)
      have HLR : Hid (RS lyS ((w4.alloc (.cells #[] 9)).alloc (.cells #[] 39)) a l) := HLV.out _ ((HZ4.out.alloc _).alloc _)
      go_wp2_with (first
        | (refine wl_appG lyS 39 26 (.agg #[.string ⟨#[]⟩, .string ⟨#[]⟩]) 32 Tryz.underlying26 infoSo3 rfl (by decide) rfl _ _ rfl w4.heap.size [] _ rfl (by simp; omega) OW0.out a l _ c rfl rfl HLR.out (by simp; omega) ?_; intro v1 w5 hown1 hg1; simp only [List.nil_append] at hown1; obtain ⟨m0, mc, rfl, _⟩ := owns_rs lyS hown1))
      have HCL : Hid (CL w4 l now m0 mc 0 (.slice (some ⟨w4.heap.size, 0, none⟩) 0 0) w5) := by
        refine ⟨⟨hg1.os, hg1.tape, hg1.output, by have := hg1.size; simp at this; omega, fun j hj => (hg1.block j (by simp; omega) (fun e => by have e2 : j = w4.heap.size + 1 := Option.some.inj e; omega)).trans ((Below.heap_alloc _ _ _ (by simp; omega)).trans (Below.heap_alloc _ _ _ hj))⟩, hown1, own_apart ON0.out OW0.out (by decide) hg1⟩
      clear hown1 hg1 OW0 ON0 HLR
      generalize (Value.slice (some ⟨w4.heap.size, 0, none⟩) 0 0) = n0 at HCL ⊢
      go_loopw [11, 13] (fun u11 u13 wr => ∃ k : Nat, k ≤ l.length ∧ k ≤ now.length ∧ u13 = .int .i64 k ∧ CL w4 l now m0 mc k u11 wr) (fun _ u13 _ => l.length - (intOf u13).toNat)
      case atStart => exact ⟨0, Nat.zero_le _, Nat.zero_le _, rfl, HCL.out⟩
      case round =>
        obtain ⟨k, hkl, hkn, rfl, hcl⟩ := hrel
        clear HCL
        have HCL := hidC hcl
        clear hcl
        by_cases h1 : k < l.length
        · by_cases h2 : k < now.length
          · have h1i : (k : Int) < (l.length : Int) := by omega
            have h2i : (k : Int) < (now.length : Int) := by omega
            obtain ⟨x, hx⟩ : ∃ x, l[k]? = some x := ⟨l[k], List.getElem?_eq_getElem h1⟩
            obtain ⟨bb, hb⟩ : ∃ x, now[k]? = some x := ⟨now[k], List.getElem?_eq_getElem h2⟩
            obtain ⟨g5, rfl⟩ : ∃ g, m0 = some ⟨g, 0, none⟩ := by
              obtain ⟨_, ⟨e1, e2⟩ | ⟨g', cap', cur, e1, _⟩⟩ := HCL.out.m
              · omega
              · simp only [Value.slice.injEq] at e1
                exact ⟨g', e1.1⟩
            have HCE : Hid (∀ U, CL w4 l now (some ⟨g5, 0, none⟩) mc k u11 U → U.cell? ⟨g5, k * 2, none⟩ = some (.string (M.bs x.1)) ∧ U.cell? ⟨g5, k * 2 + 1, none⟩ = some (.string (M.bs x.2))) := fun U h => by
              have hm := h.m
              rw [← nwL_len l now k] at hm
              obtain ⟨a', c', e', hrs⟩ := owns_rs lyS hm
              obtain ⟨b', o', e2, _, hr⟩ := hrs k x (by rw [nwL_at l now k k (Nat.le_refl _)]; exact hx)
              rw [e2] at e'
              obtain ⟨rfl, rfl⟩ : g5 = b' ∧ 0 = o' := by simpa using (Value.slice.inj e').1
              refine ⟨?_, ?_⟩
              · have := hr 0 _ rfl
                rwa [show 0 + k * lyS.k + 0 = k * 2 from by show 0 + k * 2 + 0 = k * 2; omega] at this
              · have := hr 1 _ rfl
                rwa [show 0 + k * lyS.k + 1 = k * 2 + 1 from by show 0 + k * 2 + 1 = k * 2 + 1; omega] at this
            obtain ⟨nb, no, rfl, hnb, hnr⟩ := HNV.out wr (HZ4.out.step HCL.out.bl) k bb hb
            have hnW : nb < W.heap.size := HNB.out k bb hb nb no rfl
            have hnc : wr.cell? ⟨nb, no + k, none⟩ = some (.string (M.bs bb)) := by
              have := hnr 0 _ rfl
              rwa [show no + k * lyT.k + 0 = no + k from by show no + k * 1 + 0 = no + k; omega] at this
            obtain ⟨hc0, hc1⟩ := HCE.out wr HCL.out
            have hbt := HNT.out bb (List.mem_of_getElem? hb)
            unfold maxLen at hbt
            have hbs := M.bs_size bb
            have hqq := bs_eq9 bb x.2
            have HSK : Hid (isN x bb = false → ∀ U, CL w4 l now (some ⟨g5, 0, none⟩) mc k u11 U → CL w4 l now (some ⟨g5, 0, none⟩) mc (k + 1) u11 U) := fun h U hU => hU.skip hx hb h
            have HST : Hid (isN x bb = true → ∀ U, CL w4 l now (some ⟨g5, 0, none⟩) mc k u11 U → U.frozen? ⟨g5, k * 2 + 1, none⟩ = false ∧ Bl w4 (U.setCell ⟨g5, k * 2 + 1, none⟩ (.string (M.bs bb))) ∧ (U.setCell ⟨g5, k * 2 + 1, none⟩ (.string (M.bs bb))).ownsRow w4.heap.size 39 2 (.slice (some ⟨g5, 0, none⟩) l.length mc) l.length (flG lyS (nwL l now (k + 1))) ∧ (U.setCell ⟨g5, k * 2 + 1, none⟩ (.string (M.bs bb))).ownsRow w4.heap.size 9 1 u11 (nmN l now k).length (flG lyT (nmN l now k))) := fun h U hU => hU.set hx hb h
            have HNN : Hid (isN x bb = true → nmN l now (k + 1) = nmN l now k ++ [x.1]) := fun h => by rw [nmN_succ hx hb, if_pos h]
            have hnl30 := nmN_len l now k
            by_cases he : bb = x.2
            · have hq : ((M.bs bb).toList == (M.bs x.2).toList) = true := by rw [hqq]; simp [he]
              have HS := hidC (HSK.out (decide_eq_false (fun h => h.1 he)))
              clear hqq HSK HST HNN hx hb he hnr
              obtain ⟨x1, x2⟩ := x
              simp only at hc0 hc1 hq
              go_wp2_with (first | go_skip)
              go_quiet (fail)
              go_wp2_with fail
              go_roundw
              case rel => exact ⟨k + 1, by omega, by omega, by go_num, HS.out _ (HCL.out.grow ((Bl.refl _).drewN _))⟩
              case measure => simp [intOf]; omega
            · have hq : ((M.bs bb).toList == (M.bs x.2).toList) = false := by rw [hqq]; simp [he]
              by_cases h512 : bb.length ≤ 512
              · have h512i : (bb.length : Int) ≤ 512 := by omega
                have hin : isN x bb = true := decide_eq_true ⟨he, h512⟩
                have HT2 := hidC (HST.out hin)
                have HN2 := hidC (HNN.out hin)
                clear hqq HSK HST HNN hx hb he hnr hin
                obtain ⟨x1, x2⟩ := x
                simp only at hc0 hc1 hq HN2
                go_wp2_with (first | go_skip)
                go_quiet (fail)
                go_upto_region 15 with fail
                have HCQ := hidC (HCL.out.grow ((Bl.refl wr).drewN nq))
                have HNQ : Hid ((wr.drewN nq).cell? ⟨nb, no + k, none⟩ = some (.string (M.bs bb))) := by show _ = _; rw [Bl.cell ((Bl.refl wr).drewN nq) hnb]; exact hnc
                clear hc0 hc1 hnc HCL
                generalize wr.drewN nq = wq at HCQ HNQ ⊢
                obtain ⟨hc0, hc1⟩ := HCE.out wq HCQ.out
                have hnc := HNQ.out
                obtain ⟨t1, t2, t3, t4⟩ := HT2.out wq HCQ.out
                have T2 := hidC t2
                have T3 := hidC t3
                have T4 := hidC t4
                clear t2 t3 t4 HT2
                have hne5 : nb ≠ g5 := by
                  have q1 := (TA.owns_ge HCQ.out.m (g := g5) rfl).1
                  have q2 := Below.size (HWZ.out.step HZ4.out)
                  omega
                generalize hU : wq.setCell ⟨g5, k * 2 + 1, none⟩ (.string (M.bs bb)) = U at T2 T3 T4
                have hcU : U.cell? ⟨g5, k * 2, none⟩ = some (.string (M.bs x1)) := by
                  obtain ⟨C, hC⟩ := own_tagC HCQ.out.m (g := g5) rfl
                  rw [Lib.cell_of_heap hC] at hc0
                  rw [← hU, Lib.cell_of_heap (heap_setCell_rowC hC), Array.getElem?_setIfInBounds, if_neg (by omega)]; exact hc0
                generalize nmN l now k = KS at *
                go_wp2_with (first
                  | (refine wl_app1G lyT (w := w4) (W := U) 9 22 (.string ⟨#[]⟩) 16 undS infoS rfl (by omega) rfl _ _ rfl KS.length KS rfl x1 _ rfl T2.out T4.out rfl (by omega) ?_ _ rfl rfl; intro a' c' w8 h8 hb8 hg8))
                have HX8 : Hid (CL w4 l now (some ⟨g5, 0, none⟩) mc (k + 1) (.slice a' (KS.length + 1) c') w8) := ⟨hb8, own_apart T3.out T4.out (by decide) hg8, by rw [HN2.out, List.length_append]; exact h8⟩
                clear h8 hb8 hg8
                go_roundw
                case rel => exact ⟨k + 1, by omega, by omega, by go_num, HX8.out⟩
                case measure => simp [intOf]; omega
              · have h512i : ¬ ((bb.length : Int) ≤ 512) := by omega
                have HS := hidC (HSK.out (decide_eq_false (fun h => h512 h.2)))
                clear hqq HSK HST HNN hx hb he hnr
                obtain ⟨x1, x2⟩ := x
                simp only at hc0 hc1 hq
                go_wp2_with (first | go_skip)
                go_quiet (fail)
                go_wp2_with fail
                go_roundw
                case rel => exact ⟨k + 1, by omega, by omega, by go_num, HS.out _ (HCL.out.grow ((Bl.refl _).drewN _))⟩
                case measure => simp [intOf]; omega
          · have h1i : (k : Int) < (l.length : Int) := by omega
            have h2d : decide ((k : Int) < (now.length : Int)) = false := decide_eq_false (by omega)
            have hMr := HCL.out.m
            rw [← nwL_len l now k] at hMr
            obtain ⟨m5, mc5, hme, hmrs⟩ := owns_rs lyS hMr
            rw [nwL_len] at hme
            obtain ⟨rfl, rfl⟩ : m0 = m5 ∧ mc = mc5 := by simpa using hme
            have hNr := HCL.out.n
            rw [flT_map] at hNr
            obtain ⟨xa, xc, rfl, hxc, hxs⟩ := Strs.ofOwns hNr
            have HMS := hidC hmrs
            have HXS := hidC hxs
            have hnl30 := nmN_len l now k
            have HZR := hidC (HZ4.out.step HCL.out.bl)
            have HB4R := hidC HCL.out.bl
            have HSM := hidC (nwL_sm l now k)
            have HOM := hidC (nwL_ok HOK.out now k)
            clear hMr hme hmrs hNr hxc hxs HCL HLV HNV HNT HNB
            have CB4 := hidC (fun U c5 => CB3.out U k m0 c5)
            have CK4 := hidC (fun U c5 => CK3.out U k m0 c5)
            clear CB3 CK3
            generalize nwL l now k = ML at *
            generalize nmN l now k = XS at *
            obtain ⟨f0, f1⟩ := HFA.out wr HZR.out
            go_upto_region 22 with (first
              | go_skip
              | (go_at_call 6; refine (CB4.out wr _ HZR.out HMS.out).mono ?_; clear CB4 f0 f1; rintro e w6 ⟨a7, c7, rfl, hb7, HB6⟩; have H6 := HZR.out.step HB6; obtain ⟨f0, f1⟩ := HFA.out w6 H6)
              | (go_at_call 7; refine (CK4.out w6 _ H6 (HMS.out.bl HB6)).mono ?_; clear CK4 f0 f1; rintro e w7 ⟨a8, c8, rfl, hk8, HB7⟩; have H7 := H6.step HB7; obtain ⟨f0, f1⟩ := HFA.out w7 H7)
              | (go_at_call 8; refine (CD.out w7 XS xa xc H7 (Strs.bl (Strs.bl HXS.out HB6) HB7) (by omega)).mono ?_; clear CD f0 f1; rintro e w8 ⟨a9, c9, rfl, hd9, HB8⟩; have H8 := H7.step HB8))
            have HCW : Hid (CW g l ML (drL g XS) a5 a6 a7 a8 a9 w8 ∧ Bl (W.alloc (.cells #[.slice sa g.1.length sc, .slice aa g.2.length ac] 25)) w8) := ⟨⟨(HBU.out.1.bl HB4R.out).bl ((HB6.step HB7).step HB8), (HBU.out.2.bl HB4R.out).bl ((HB6.step HB7).step HB8), hb7.bl (HB7.step HB8), hk8.bl HB8, hd9⟩, H8⟩
            have HDR : Hid (drL g XS = plcs (drt g (TR.fin g) (TR.setOf (TR.nm g) XS)) g.2.length) := by show _ = _; unfold drL; rw [if_pos (TR.chk_zero.2 HOK.out.good)]
            have HDT : Hid (∀ (p : Nat) t, g.2[p]? = some t → drt g (TR.fin g) (TR.setOf (TR.nm g) XS) p = dtA g XS t) := fun p t ht => drt_iff HOK.out.good ht XS
            have HCN : Hid (∀ (p : Nat) t, g.2[p]? = some t → dtA g XS t = false → O.gt (O.baked g l) t.1 = O.gt (O.baked g ML) t.1 ∧ O.keyA (O.baked g l) t = O.keyA (O.baked g ML) t) := fun p t ht hd => clean HOK.out HOM.out HSM.out ht hd
            have HPG := hidC (plcs_get (drt g (TR.fin g) (TR.setOf (TR.nm g) XS)) g.2.length)
            have HPS := hidC (plcs_succ (drt g (TR.fin g) (TR.setOf (TR.nm g) XS)))
            have HPL : Hid (∀ i, (plcs (drt g (TR.fin g) (TR.setOf (TR.nm g) XS)) i).length ≤ i) := fun i => by
              unfold plcs
              exact Nat.le_trans (List.length_filter_le _ _) (by simp)
            have HPZ : Hid (plcs (drt g (TR.fin g) (TR.setOf (TR.nm g) XS)) 0 = []) := rfl
            clear HMS HXS HZR HB4R HSM HOM HOK HBU HZ4 hb7 hk8 hd9 HB6 HB7 HB8 H6 H7 H8
            generalize drt g (TR.fin g) (TR.setOf (TR.nm g) XS) = qd at *
            generalize drL g XS = D at *
            go_wp2_with fail
            go_loopw [17, 18] (fun u17 u18 wr => ∃ i : Nat, i ≤ g.2.length ∧ u18 = .int .i64 i ∧ u17 = .int .i64 ((plcs qd i).length : Int) ∧ CW g l ML D a5 a6 a7 a8 a9 wr ∧ Bl (W.alloc (.cells #[.slice sa g.1.length sc, .slice aa g.2.length ac] 25)) wr) (fun _ u18 _ => g.2.length - (intOf u18).toNat)
            case atStart => exact ⟨0, Nat.zero_le _, rfl, by rw [HPZ.out]; rfl, HCW.out.1, HCW.out.2⟩
            case round =>
              obtain ⟨i, hi, rfl, rfl, hcw, hzr⟩ := hrel
              clear HCW
              have HCW := hidC hcw
              have HZR := hidC hzr
              obtain ⟨f0, f1⟩ := HFA.out wr hzr
              clear hcw hzr f0
              by_cases hig : i < g.2.length
              · have hii : (i : Int) < (g.2.length : Int) := by omega
                have hpl := HPL.out i
                have hpg := HPG.out i hig
                have hps := HPS.out i
                obtain ⟨t, ht⟩ : ∃ t, g.2[i]? = some t := ⟨g.2[i], List.getElem?_eq_getElem hig⟩
                have hdt := HDT.out i t ht
                rw [← HDR.out] at hpg
                cases hq : qd i with
                | true =>
                  rw [hq, if_pos rfl] at hpg
                  rw [hq] at hps
                  have HPN : Hid ((plcs qd (i + 1)).length = (plcs qd i).length + 1) := by show _ = _; rw [hps]; simp
                  have hal : (plcs qd i).length < D.length := (List.getElem?_eq_some_iff.1 hpg).1
                  obtain ⟨b9, o9, rfl, _, hc9⟩ := HCW.out.d _ i hpg
                  clear hpg hps hdt hq ht
                  generalize (plcs qd i).length = at' at *
                  have hali : (at' : Int) < (D.length : Int) := by omega
                  go_wp2_with (first | go_skip)
                  go_roundw
                  case rel => exact ⟨i + 1, by omega, by go_num, by rw [HPN.out]; go_num, HCW.out, HZR.out⟩
                  case measure => simp [intOf]; omega
                | false =>
                  rw [hq] at hpg hps hdt
                  have HPN : Hid ((plcs qd (i + 1)).length = (plcs qd i).length) := by show _ = _; rw [hps]; simp
                  obtain ⟨e1, e2⟩ := HCN.out i t ht hdt.symm
                  have HRG : Hid (∀ U, CW g l ML D a5 a6 a7 a8 a9 U → ∃ b5 o5 b7 o7 b6 o6 b8 o8, a5 = some ⟨b5, o5, none⟩ ∧ a7 = some ⟨b7, o7, none⟩ ∧ a6 = some ⟨b6, o6, none⟩ ∧ a8 = some ⟨b8, o8, none⟩ ∧ U.rangeAt b5 (o5 + i * 3) (lyB.f (t.1, O.gt (O.baked g l) t.1)) ∧ U.rangeAt b7 (o7 + i * 3) (lyB.f (t.1, O.gt (O.baked g l) t.1)) ∧ U.rangeAt b6 (o6 + i * 32) (lyD.f (O.keyA (O.baked g l) t)) ∧ U.rangeAt b8 (o8 + i * 32) (lyD.f (O.keyA (O.baked g l) t))) := fun U h => by
                    have x1 : (O.build g l)[i]? = some (t.1, O.gt (O.baked g l) t.1) := by unfold O.build; rw [List.getElem?_map, ht]; rfl
                    have x2 : (O.build g ML)[i]? = some (t.1, O.gt (O.baked g l) t.1) := by unfold O.build; rw [List.getElem?_map, ht, e1]; rfl
                    have x3 : (O.keys g l)[i]? = some (O.keyA (O.baked g l) t) := by unfold O.keys; rw [List.getElem?_map, ht]; rfl
                    have x4 : (O.keys g ML)[i]? = some (O.keyA (O.baked g l) t) := by unfold O.keys; rw [List.getElem?_map, ht, e2]; rfl
                    obtain ⟨b5, o5, y1, _, z1⟩ := h.b1 i _ x1
                    obtain ⟨b7, o7, y2, _, z2⟩ := h.b2 i _ x2
                    obtain ⟨b6, o6, y3, _, z3⟩ := h.k1 i _ x3
                    obtain ⟨b8, o8, y4, _, z4⟩ := h.k2 i _ x4
                    exact ⟨b5, o5, b7, o7, b6, o6, b8, o8, y1, y2, y3, y4, z1, z2, z3, z4⟩
                  obtain ⟨b5, o5, b7, o7, b6, o6, b8, o8, rfl, rfl, rfl, rfl, _⟩ := HRG.out wr HCW.out
                  have HRH : Hid (∀ U, CW g l ML D (some ⟨b5, o5, none⟩) (some ⟨b6, o6, none⟩) (some ⟨b7, o7, none⟩) (some ⟨b8, o8, none⟩) a9 U → U.rangeAt b5 (o5 + i * 3) (lyB.f (t.1, O.gt (O.baked g l) t.1)) ∧ U.rangeAt b7 (o7 + i * 3) (lyB.f (t.1, O.gt (O.baked g l) t.1)) ∧ U.rangeAt b6 (o6 + i * 32) (lyD.f (O.keyA (O.baked g l) t)) ∧ U.rangeAt b8 (o8 + i * 32) (lyD.f (O.keyA (O.baked g l) t))) := fun U h => by
                    obtain ⟨c5, p5, c7, p7, c6, p6, c8, p8, y1, y2, y3, y4, z⟩ := HRG.out U h
                    cases y1; cases y2; cases y3; cases y4
                    exact z
                  have heq1 := fun W => eqBu (t.1, O.gt (O.baked g l) t.1) W
                  have heq2 : ∀ W, (Op.equalIn 10000 47 (.agg (lyD.f (O.keyA (O.baked g l) t)).toArray) (.agg (lyD.f (O.keyA (O.baked g l) t)).toArray)).run Tryz.prog W = .ok true W := fun W => by
                    have := eqDg (O.keyA (O.baked g l) t) (O.keyA (O.baked g l) t) (keyA_len _ _) (keyA_len _ _) W
                    rw [dg_lyD (keyA_len _ _)] at this
                    simpa using this
                  have hB3 : (lyB.f (t.1, O.gt (O.baked g l) t.1)).length = 3 := lyB.len _
                  have hD32 : (lyD.f (O.keyA (O.baked g l) t)).length = 32 := lyD.len _
                  have hiB : (Tryz.prog.info? 45).map (·.size) = some (lyB.f (t.1, O.gt (O.baked g l) t.1)).length := by rw [hB3]; kernel_rfl
                  have hiD : (Tryz.prog.info? 47).map (·.size) = some (lyD.f (O.keyA (O.baked g l) t)).length := by rw [hD32]; kernel_rfl
                  obtain ⟨fsB, humB⟩ : ∃ fs, Tryz.prog.underlying 45 = some (.struct fs) := ⟨_, Tryz.underlying45⟩
                  have HDX : Hid (((plcs qd i).length < D.length ∧ ∃ x : Nat, x ≠ i ∧ D[(plcs qd i).length]? = some x) ∨ D.length ≤ (plcs qd i).length) := by
                    rcases Nat.lt_or_ge (plcs qd i).length D.length with h | h
                    · left
                      refine ⟨h, D[(plcs qd i).length], fun e => ?_, List.getElem?_eq_getElem h⟩
                      rw [if_neg (by decide)] at hpg
                      exact hpg (by rw [List.getElem?_eq_getElem h, e])
                    · exact Or.inr h
                  clear hpg hps hdt hq ht e1 e2 HRG hB3 hD32
                  generalize lyB.f (t.1, O.gt (O.baked g l) t.1) = BL at *
                  generalize lyD.f (O.keyA (O.baked g l) t) = DL at *
                  go_upto_region 26 with fail
                  go_cut [140] (fun s wx => s = .bool false ∧ wr = wx)
                  case first =>
                    rcases HDX.out with ⟨h1, x, hx1, hx2⟩ | h1
                    · obtain ⟨b9, o9, rfl, _, hc9⟩ := HCW.out.d _ x hx2
                      clear HRH heq1 heq2
                      generalize (plcs qd i).length = at' at *
                      have hali : (at' : Int) < (D.length : Int) := by omega
                      have hxq : ((x : Int) == (i : Int)) = false := by rw [beq_eq_false_iff_ne]; omega
                      go_wp2_with (first | go_skip)
                      go_meet
                      exact ⟨rfl, rfl⟩
                    · clear HRH heq1 heq2
                      generalize (plcs qd i).length = at' at *
                      have hali : decide ((at' : Int) < (D.length : Int)) = false := decide_eq_false (by omega)
                      go_wp2_with (first | go_skip)
                      go_meet
                      exact ⟨rfl, rfl⟩
                  case rest =>
                    obtain ⟨rfl, rfl⟩ := hcut
                    clear HDX
                    go_upto_region 28 with fail
                    refine wp_region_noPanic ?_
                    refine wp_region_held_drew (S := fun U => U.rangeAt b5 (o5 + i * 3) BL ∧ U.rangeAt b7 (o7 + i * 3) BL ∧ U.rangeAt b6 (o6 + i * 32) DL ∧ U.rangeAt b8 (o8 + i * 32) DL) (by kernel_rfl) (HRH.out _ ((HCW.out.grow ((Bl.refl _).drewN 1)))) (fun hHeld => ?_)
                    refine wpAnyH_take (i := 0) rfl (by kernel_rfl) (by kernel_rfl) (by kernel_rfl) (fun _ _ _ h => h) (yi_move (by kernel_rfl) rfl rfl) (by assumption) ?_
                    simp only [Act.put, List.getElem_toArray, List.getElem_cons_succ, List.getElem_cons_zero, List.setIfInBounds_toArray, List.set_cons_zero, List.set_cons_succ]
                    refine wpAnyH_take (i := 1) rfl (by kernel_rfl) (by kernel_rfl) (by kernel_rfl) (fun _ _ _ h => h) (yi_move (by kernel_rfl) rfl rfl) (by assumption) ?_
                    simp only [Act.put, List.getElem_toArray, List.getElem_cons_succ, List.getElem_cons_zero, List.setIfInBounds_toArray, List.set_cons_zero, List.set_cons_succ]
                    refine wpAnyH_take (i := 2) (v := ?_) rfl (by kernel_rfl) (by kernel_rfl) (by kernel_rfl) (fun _ _ _ h => h) (Or.inl ⟨by kernel_rfl, ?_⟩) (by assumption) ?_
                    rotate_left
                    · (intro w hSw; (try dsimp only at hSw); go_simp; (try with_reducible rfl))
                    simp only [Act.put, List.getElem_toArray, List.getElem_cons_succ, List.getElem_cons_zero, List.setIfInBounds_toArray, List.set_cons_zero, List.set_cons_succ]
                    refine wpAnyH_take (i := 3) (v := .agg (List.toArray BL)) rfl (by kernel_rfl) (by kernel_rfl) (by kernel_rfl) (fun _ _ _ h => h) (yieldsIf_load_mid (by kernel_rfl) _ (.tmp 145) (by kernel_rfl) b5 (o5 + i * 3) (by kernel_rfl) BL _ (fun W hW => hW.1) humB rfl hiB) (by assumption) ?_
                    simp only [Act.put, List.getElem_toArray, List.getElem_cons_succ, List.getElem_cons_zero, List.setIfInBounds_toArray, List.set_cons_zero, List.set_cons_succ]
                    refine wpAnyH_take (i := 4) rfl (by kernel_rfl) (by kernel_rfl) (by kernel_rfl) (fun _ _ _ h => h) (yi_move (by kernel_rfl) rfl rfl) (by assumption) ?_
                    simp only [Act.put, List.getElem_toArray, List.getElem_cons_succ, List.getElem_cons_zero, List.setIfInBounds_toArray, List.set_cons_zero, List.set_cons_succ]
                    refine wpAnyH_take (i := 5) rfl (by kernel_rfl) (by kernel_rfl) (by kernel_rfl) (fun _ _ _ h => h) (yi_move (by kernel_rfl) rfl rfl) (by assumption) ?_
                    simp only [Act.put, List.getElem_toArray, List.getElem_cons_succ, List.getElem_cons_zero, List.setIfInBounds_toArray, List.set_cons_zero, List.set_cons_succ]
                    refine wpAnyH_take (i := 6) (v := ?_) rfl (by kernel_rfl) (by kernel_rfl) (by kernel_rfl) (fun _ _ _ h => h) (Or.inl ⟨by kernel_rfl, ?_⟩) (by assumption) ?_
                    rotate_left
                    · (intro w hSw; (try dsimp only at hSw); go_simp; (try with_reducible rfl))
                    simp only [Act.put, List.getElem_toArray, List.getElem_cons_succ, List.getElem_cons_zero, List.setIfInBounds_toArray, List.set_cons_zero, List.set_cons_succ]
                    refine wpAnyH_take (i := 7) (v := .agg (List.toArray BL)) rfl (by kernel_rfl) (by kernel_rfl) (by kernel_rfl) (fun _ _ _ h => h) (yieldsIf_load_mid (by kernel_rfl) _ (.tmp 149) (by kernel_rfl) b7 (o7 + i * 3) (by kernel_rfl) BL _ (fun W hW => hW.2.1) humB rfl hiB) (by assumption) ?_
                    simp only [Act.put, List.getElem_toArray, List.getElem_cons_succ, List.getElem_cons_zero, List.setIfInBounds_toArray, List.set_cons_zero, List.set_cons_succ]
                    refine wpAnyH_take (i := 8) (v := ?_) rfl (by kernel_rfl) (by kernel_rfl) (by kernel_rfl) (fun _ _ _ h => h) (Or.inl ⟨by kernel_rfl, ?_⟩) (by assumption) ?_
                    rotate_left
                    · (intro w hSw; (try dsimp only at hSw); go_simp; (try with_reducible rfl))
                    simp only [Act.put, List.getElem_toArray, List.getElem_cons_succ, List.getElem_cons_zero, List.setIfInBounds_toArray, List.set_cons_zero, List.set_cons_succ]
                    refine wpAnyH_take (i := 9) rfl (by kernel_rfl) (by kernel_rfl) (by kernel_rfl) (fun _ _ _ h => h) (yi_move (by kernel_rfl) rfl rfl) (by assumption) ?_
                    simp only [Act.put, List.getElem_toArray, List.getElem_cons_succ, List.getElem_cons_zero, List.setIfInBounds_toArray, List.set_cons_zero, List.set_cons_succ]
                    refine wpAnyH_take (i := 10) rfl (by kernel_rfl) (by kernel_rfl) (by kernel_rfl) (fun _ _ _ h => h) (yi_move (by kernel_rfl) rfl rfl) (by assumption) ?_
                    simp only [Act.put, List.getElem_toArray, List.getElem_cons_succ, List.getElem_cons_zero, List.setIfInBounds_toArray, List.set_cons_zero, List.set_cons_succ]
                    refine wpAnyH_take (i := 11) rfl (by kernel_rfl) (by kernel_rfl) (by kernel_rfl) (fun _ _ _ h => h) (yi_move (by kernel_rfl) rfl rfl) (by assumption) ?_
                    simp only [Act.put, List.getElem_toArray, List.getElem_cons_succ, List.getElem_cons_zero, List.setIfInBounds_toArray, List.set_cons_zero, List.set_cons_succ]
                    refine wpAnyH_take (i := 12) (v := ?_) rfl (by kernel_rfl) (by kernel_rfl) (by kernel_rfl) (fun _ _ _ h => h) (Or.inl ⟨by kernel_rfl, ?_⟩) (by assumption) ?_
                    rotate_left
                    · (intro w hSw; (try dsimp only at hSw); go_simp; (try with_reducible rfl))
                    simp only [Act.put, List.getElem_toArray, List.getElem_cons_succ, List.getElem_cons_zero, List.setIfInBounds_toArray, List.set_cons_zero, List.set_cons_succ]
                    refine wpAnyH_take (i := 13) (v := .agg (List.toArray DL)) rfl (by kernel_rfl) (by kernel_rfl) (by kernel_rfl) (fun _ _ _ h => h) (yieldsIf_load_mid (by kernel_rfl) _ (.tmp 155) (by kernel_rfl) b6 (o6 + i * 32) (by kernel_rfl) DL _ (fun W hW => hW.2.2.1) und27 rfl hiD) (by assumption) ?_
                    simp only [Act.put, List.getElem_toArray, List.getElem_cons_succ, List.getElem_cons_zero, List.setIfInBounds_toArray, List.set_cons_zero, List.set_cons_succ]
                    refine wpAnyH_take (i := 14) rfl (by kernel_rfl) (by kernel_rfl) (by kernel_rfl) (fun _ _ _ h => h) (yi_move (by kernel_rfl) rfl rfl) (by assumption) ?_
                    simp only [Act.put, List.getElem_toArray, List.getElem_cons_succ, List.getElem_cons_zero, List.setIfInBounds_toArray, List.set_cons_zero, List.set_cons_succ]
                    refine wpAnyH_take (i := 15) rfl (by kernel_rfl) (by kernel_rfl) (by kernel_rfl) (fun _ _ _ h => h) (yi_move (by kernel_rfl) rfl rfl) (by assumption) ?_
                    simp only [Act.put, List.getElem_toArray, List.getElem_cons_succ, List.getElem_cons_zero, List.setIfInBounds_toArray, List.set_cons_zero, List.set_cons_succ]
                    refine wpAnyH_take (i := 16) (v := ?_) rfl (by kernel_rfl) (by kernel_rfl) (by kernel_rfl) (fun _ _ _ h => h) (Or.inl ⟨by kernel_rfl, ?_⟩) (by assumption) ?_
                    rotate_left
                    · (intro w hSw; (try dsimp only at hSw); go_simp; (try with_reducible rfl))
                    simp only [Act.put, List.getElem_toArray, List.getElem_cons_succ, List.getElem_cons_zero, List.setIfInBounds_toArray, List.set_cons_zero, List.set_cons_succ]
                    refine wpAnyH_take (i := 17) (v := .agg (List.toArray DL)) rfl (by kernel_rfl) (by kernel_rfl) (by kernel_rfl) (fun _ _ _ h => h) (yieldsIf_load_mid (by kernel_rfl) _ (.tmp 159) (by kernel_rfl) b8 (o8 + i * 32) (by kernel_rfl) DL _ (fun W hW => hW.2.2.2) und27 rfl hiD) (by assumption) ?_
                    simp only [Act.put, List.getElem_toArray, List.getElem_cons_succ, List.getElem_cons_zero, List.setIfInBounds_toArray, List.set_cons_zero, List.set_cons_succ]
                    refine wpAnyH_take (i := 18) (v := ?_) rfl (by kernel_rfl) (by kernel_rfl) (by kernel_rfl) (fun _ _ _ h => h) (Or.inl ⟨by kernel_rfl, ?_⟩) (by assumption) ?_
                    rotate_left
                    · (intro w hSw; (try dsimp only at hSw); go_simp; (try with_reducible rfl))
                    simp only [Act.put, List.getElem_toArray, List.getElem_cons_succ, List.getElem_cons_zero, List.setIfInBounds_toArray, List.set_cons_zero, List.set_cons_succ]
                    refine wpAnyH_take (i := 19) (v := ?_) rfl (by kernel_rfl) (by kernel_rfl) (by kernel_rfl) (fun _ _ _ h => h) (Or.inl ⟨by kernel_rfl, ?_⟩) (by assumption) ?_
                    rotate_left
                    · (intro w hSw; (try dsimp only at hSw); go_simp; (try with_reducible rfl))
                    simp only [Act.put, List.getElem_toArray, List.getElem_cons_succ, List.getElem_cons_zero, List.setIfInBounds_toArray, List.set_cons_zero, List.set_cons_succ]
                    refine wpAnyH_done (by kernel_rfl) ?_ _
                    refine NoPanic.normal ?_
                    go_wp2_with fail
                    go_roundw
                    case rel => exact ⟨i + 1, by omega, by go_num, by rw [HPN.out], ((HCW.out.grow ((Bl.refl _).drewN 1))), HZR.out.step ((Bl.refl _).drewN 1)⟩
                    case measure => simp [intOf]; omega
              · obtain rfl : i = g.2.length := by omega
                go_wp2_with fail
                go_ret
                exact ⟨rfl, FIN.out _ HZR.out⟩
        · have h1d : decide ((k : Int) < (l.length : Int)) = false := decide_eq_false (by omega)
          have hMr := HCL.out.m
          rw [← nwL_len l now k] at hMr
          obtain ⟨m5, mc5, hme, hmrs⟩ := owns_rs lyS hMr
          rw [nwL_len] at hme
          obtain ⟨rfl, rfl⟩ : m0 = m5 ∧ mc = mc5 := by simpa using hme
          have hNr := HCL.out.n
          rw [flT_map] at hNr
          obtain ⟨xa, xc, rfl, hxc, hxs⟩ := Strs.ofOwns hNr
          have HMS := hidC hmrs
          have HXS := hidC hxs
          have hnl30 := nmN_len l now k
          have HZR := hidC (HZ4.out.step HCL.out.bl)
          have HB4R := hidC HCL.out.bl
          have HSM := hidC (nwL_sm l now k)
          have HOM := hidC (nwL_ok HOK.out now k)
          clear hMr hme hmrs hNr hxc hxs HCL HLV HNV HNT HNB
          have CB4 := hidC (fun U c5 => CB3.out U k m0 c5)
          have CK4 := hidC (fun U c5 => CK3.out U k m0 c5)
          clear CB3 CK3
          generalize nwL l now k = ML at *
          generalize nmN l now k = XS at *
          obtain ⟨f0, f1⟩ := HFA.out wr HZR.out
          go_upto_region 22 with (first
            | go_skip
            | (go_at_call 6; refine (CB4.out wr _ HZR.out HMS.out).mono ?_; clear CB4 f0 f1; rintro e w6 ⟨a7, c7, rfl, hb7, HB6⟩; have H6 := HZR.out.step HB6; obtain ⟨f0, f1⟩ := HFA.out w6 H6)
            | (go_at_call 7; refine (CK4.out w6 _ H6 (HMS.out.bl HB6)).mono ?_; clear CK4 f0 f1; rintro e w7 ⟨a8, c8, rfl, hk8, HB7⟩; have H7 := H6.step HB7; obtain ⟨f0, f1⟩ := HFA.out w7 H7)
            | (go_at_call 8; refine (CD.out w7 XS xa xc H7 (Strs.bl (Strs.bl HXS.out HB6) HB7) (by omega)).mono ?_; clear CD f0 f1; rintro e w8 ⟨a9, c9, rfl, hd9, HB8⟩; have H8 := H7.step HB8))
          have HCW : Hid (CW g l ML (drL g XS) a5 a6 a7 a8 a9 w8 ∧ Bl (W.alloc (.cells #[.slice sa g.1.length sc, .slice aa g.2.length ac] 25)) w8) := ⟨⟨(HBU.out.1.bl HB4R.out).bl ((HB6.step HB7).step HB8), (HBU.out.2.bl HB4R.out).bl ((HB6.step HB7).step HB8), hb7.bl (HB7.step HB8), hk8.bl HB8, hd9⟩, H8⟩
          have HDR : Hid (drL g XS = plcs (drt g (TR.fin g) (TR.setOf (TR.nm g) XS)) g.2.length) := by show _ = _; unfold drL; rw [if_pos (TR.chk_zero.2 HOK.out.good)]
          have HDT : Hid (∀ (p : Nat) t, g.2[p]? = some t → drt g (TR.fin g) (TR.setOf (TR.nm g) XS) p = dtA g XS t) := fun p t ht => drt_iff HOK.out.good ht XS
          have HCN : Hid (∀ (p : Nat) t, g.2[p]? = some t → dtA g XS t = false → O.gt (O.baked g l) t.1 = O.gt (O.baked g ML) t.1 ∧ O.keyA (O.baked g l) t = O.keyA (O.baked g ML) t) := fun p t ht hd => clean HOK.out HOM.out HSM.out ht hd
          have HPG := hidC (plcs_get (drt g (TR.fin g) (TR.setOf (TR.nm g) XS)) g.2.length)
          have HPS := hidC (plcs_succ (drt g (TR.fin g) (TR.setOf (TR.nm g) XS)))
          have HPL : Hid (∀ i, (plcs (drt g (TR.fin g) (TR.setOf (TR.nm g) XS)) i).length ≤ i) := fun i => by
            unfold plcs
            exact Nat.le_trans (List.length_filter_le _ _) (by simp)
          have HPZ : Hid (plcs (drt g (TR.fin g) (TR.setOf (TR.nm g) XS)) 0 = []) := rfl
          clear HMS HXS HZR HB4R HSM HOM HOK HBU HZ4 hb7 hk8 hd9 HB6 HB7 HB8 H6 H7 H8
          generalize drt g (TR.fin g) (TR.setOf (TR.nm g) XS) = qd at *
          generalize drL g XS = D at *
          go_wp2_with fail
          go_loopw [17, 18] (fun u17 u18 wr => ∃ i : Nat, i ≤ g.2.length ∧ u18 = .int .i64 i ∧ u17 = .int .i64 ((plcs qd i).length : Int) ∧ CW g l ML D a5 a6 a7 a8 a9 wr ∧ Bl (W.alloc (.cells #[.slice sa g.1.length sc, .slice aa g.2.length ac] 25)) wr) (fun _ u18 _ => g.2.length - (intOf u18).toNat)
          case atStart => exact ⟨0, Nat.zero_le _, rfl, by rw [HPZ.out]; rfl, HCW.out.1, HCW.out.2⟩
          case round =>
            obtain ⟨i, hi, rfl, rfl, hcw, hzr⟩ := hrel
            clear HCW
            have HCW := hidC hcw
            have HZR := hidC hzr
            obtain ⟨f0, f1⟩ := HFA.out wr hzr
            clear hcw hzr f0
            by_cases hig : i < g.2.length
            · have hii : (i : Int) < (g.2.length : Int) := by omega
              have hpl := HPL.out i
              have hpg := HPG.out i hig
              have hps := HPS.out i
              obtain ⟨t, ht⟩ : ∃ t, g.2[i]? = some t := ⟨g.2[i], List.getElem?_eq_getElem hig⟩
              have hdt := HDT.out i t ht
              rw [← HDR.out] at hpg
              cases hq : qd i with
              | true =>
                rw [hq, if_pos rfl] at hpg
                rw [hq] at hps
                have HPN : Hid ((plcs qd (i + 1)).length = (plcs qd i).length + 1) := by show _ = _; rw [hps]; simp
                have hal : (plcs qd i).length < D.length := (List.getElem?_eq_some_iff.1 hpg).1
                obtain ⟨b9, o9, rfl, _, hc9⟩ := HCW.out.d _ i hpg
                clear hpg hps hdt hq ht
                generalize (plcs qd i).length = at' at *
                have hali : (at' : Int) < (D.length : Int) := by omega
                go_wp2_with (first | go_skip)
                go_roundw
                case rel => exact ⟨i + 1, by omega, by go_num, by rw [HPN.out]; go_num, HCW.out, HZR.out⟩
                case measure => simp [intOf]; omega
              | false =>
                rw [hq] at hpg hps hdt
                have HPN : Hid ((plcs qd (i + 1)).length = (plcs qd i).length) := by show _ = _; rw [hps]; simp
                obtain ⟨e1, e2⟩ := HCN.out i t ht hdt.symm
                have HRG : Hid (∀ U, CW g l ML D a5 a6 a7 a8 a9 U → ∃ b5 o5 b7 o7 b6 o6 b8 o8, a5 = some ⟨b5, o5, none⟩ ∧ a7 = some ⟨b7, o7, none⟩ ∧ a6 = some ⟨b6, o6, none⟩ ∧ a8 = some ⟨b8, o8, none⟩ ∧ U.rangeAt b5 (o5 + i * 3) (lyB.f (t.1, O.gt (O.baked g l) t.1)) ∧ U.rangeAt b7 (o7 + i * 3) (lyB.f (t.1, O.gt (O.baked g l) t.1)) ∧ U.rangeAt b6 (o6 + i * 32) (lyD.f (O.keyA (O.baked g l) t)) ∧ U.rangeAt b8 (o8 + i * 32) (lyD.f (O.keyA (O.baked g l) t))) := fun U h => by
                  have x1 : (O.build g l)[i]? = some (t.1, O.gt (O.baked g l) t.1) := by unfold O.build; rw [List.getElem?_map, ht]; rfl
                  have x2 : (O.build g ML)[i]? = some (t.1, O.gt (O.baked g l) t.1) := by unfold O.build; rw [List.getElem?_map, ht, e1]; rfl
                  have x3 : (O.keys g l)[i]? = some (O.keyA (O.baked g l) t) := by unfold O.keys; rw [List.getElem?_map, ht]; rfl
                  have x4 : (O.keys g ML)[i]? = some (O.keyA (O.baked g l) t) := by unfold O.keys; rw [List.getElem?_map, ht, e2]; rfl
                  obtain ⟨b5, o5, y1, _, z1⟩ := h.b1 i _ x1
                  obtain ⟨b7, o7, y2, _, z2⟩ := h.b2 i _ x2
                  obtain ⟨b6, o6, y3, _, z3⟩ := h.k1 i _ x3
                  obtain ⟨b8, o8, y4, _, z4⟩ := h.k2 i _ x4
                  exact ⟨b5, o5, b7, o7, b6, o6, b8, o8, y1, y2, y3, y4, z1, z2, z3, z4⟩
                obtain ⟨b5, o5, b7, o7, b6, o6, b8, o8, rfl, rfl, rfl, rfl, _⟩ := HRG.out wr HCW.out
                have HRH : Hid (∀ U, CW g l ML D (some ⟨b5, o5, none⟩) (some ⟨b6, o6, none⟩) (some ⟨b7, o7, none⟩) (some ⟨b8, o8, none⟩) a9 U → U.rangeAt b5 (o5 + i * 3) (lyB.f (t.1, O.gt (O.baked g l) t.1)) ∧ U.rangeAt b7 (o7 + i * 3) (lyB.f (t.1, O.gt (O.baked g l) t.1)) ∧ U.rangeAt b6 (o6 + i * 32) (lyD.f (O.keyA (O.baked g l) t)) ∧ U.rangeAt b8 (o8 + i * 32) (lyD.f (O.keyA (O.baked g l) t))) := fun U h => by
                  obtain ⟨c5, p5, c7, p7, c6, p6, c8, p8, y1, y2, y3, y4, z⟩ := HRG.out U h
                  cases y1; cases y2; cases y3; cases y4
                  exact z
                have heq1 := fun W => eqBu (t.1, O.gt (O.baked g l) t.1) W
                have heq2 : ∀ W, (Op.equalIn 10000 47 (.agg (lyD.f (O.keyA (O.baked g l) t)).toArray) (.agg (lyD.f (O.keyA (O.baked g l) t)).toArray)).run Tryz.prog W = .ok true W := fun W => by
                  have := eqDg (O.keyA (O.baked g l) t) (O.keyA (O.baked g l) t) (keyA_len _ _) (keyA_len _ _) W
                  rw [dg_lyD (keyA_len _ _)] at this
                  simpa using this
                have hB3 : (lyB.f (t.1, O.gt (O.baked g l) t.1)).length = 3 := lyB.len _
                have hD32 : (lyD.f (O.keyA (O.baked g l) t)).length = 32 := lyD.len _
                have hiB : (Tryz.prog.info? 45).map (·.size) = some (lyB.f (t.1, O.gt (O.baked g l) t.1)).length := by rw [hB3]; kernel_rfl
                have hiD : (Tryz.prog.info? 47).map (·.size) = some (lyD.f (O.keyA (O.baked g l) t)).length := by rw [hD32]; kernel_rfl
                obtain ⟨fsB, humB⟩ : ∃ fs, Tryz.prog.underlying 45 = some (.struct fs) := ⟨_, Tryz.underlying45⟩
                have HDX : Hid (((plcs qd i).length < D.length ∧ ∃ x : Nat, x ≠ i ∧ D[(plcs qd i).length]? = some x) ∨ D.length ≤ (plcs qd i).length) := by
                  rcases Nat.lt_or_ge (plcs qd i).length D.length with h | h
                  · left
                    refine ⟨h, D[(plcs qd i).length], fun e => ?_, List.getElem?_eq_getElem h⟩
                    rw [if_neg (by decide)] at hpg
                    exact hpg (by rw [List.getElem?_eq_getElem h, e])
                  · exact Or.inr h
                clear hpg hps hdt hq ht e1 e2 HRG hB3 hD32
                generalize lyB.f (t.1, O.gt (O.baked g l) t.1) = BL at *
                generalize lyD.f (O.keyA (O.baked g l) t) = DL at *
                go_upto_region 26 with fail
                go_cut [140] (fun s wx => s = .bool false ∧ wr = wx)
                case first =>
                  rcases HDX.out with ⟨h1, x, hx1, hx2⟩ | h1
                  · obtain ⟨b9, o9, rfl, _, hc9⟩ := HCW.out.d _ x hx2
                    clear HRH heq1 heq2
                    generalize (plcs qd i).length = at' at *
                    have hali : (at' : Int) < (D.length : Int) := by omega
                    have hxq : ((x : Int) == (i : Int)) = false := by rw [beq_eq_false_iff_ne]; omega
                    go_wp2_with (first | go_skip)
                    go_meet
                    exact ⟨rfl, rfl⟩
                  · clear HRH heq1 heq2
                    generalize (plcs qd i).length = at' at *
                    have hali : decide ((at' : Int) < (D.length : Int)) = false := decide_eq_false (by omega)
                    go_wp2_with (first | go_skip)
                    go_meet
                    exact ⟨rfl, rfl⟩
                case rest =>
                  obtain ⟨rfl, rfl⟩ := hcut
                  clear HDX
                  go_upto_region 28 with fail
                  refine wp_region_noPanic ?_
                  refine wp_region_held_drew (S := fun U => U.rangeAt b5 (o5 + i * 3) BL ∧ U.rangeAt b7 (o7 + i * 3) BL ∧ U.rangeAt b6 (o6 + i * 32) DL ∧ U.rangeAt b8 (o8 + i * 32) DL) (by kernel_rfl) (HRH.out _ ((HCW.out.grow ((Bl.refl _).drewN 1)))) (fun hHeld => ?_)
                  refine wpAnyH_take (i := 0) rfl (by kernel_rfl) (by kernel_rfl) (by kernel_rfl) (fun _ _ _ h => h) (yi_move (by kernel_rfl) rfl rfl) (by assumption) ?_
                  simp only [Act.put, List.getElem_toArray, List.getElem_cons_succ, List.getElem_cons_zero, List.setIfInBounds_toArray, List.set_cons_zero, List.set_cons_succ]
                  refine wpAnyH_take (i := 1) rfl (by kernel_rfl) (by kernel_rfl) (by kernel_rfl) (fun _ _ _ h => h) (yi_move (by kernel_rfl) rfl rfl) (by assumption) ?_
                  simp only [Act.put, List.getElem_toArray, List.getElem_cons_succ, List.getElem_cons_zero, List.setIfInBounds_toArray, List.set_cons_zero, List.set_cons_succ]
                  refine wpAnyH_take (i := 2) (v := ?_) rfl (by kernel_rfl) (by kernel_rfl) (by kernel_rfl) (fun _ _ _ h => h) (Or.inl ⟨by kernel_rfl, ?_⟩) (by assumption) ?_
                  rotate_left
                  · (intro w hSw; (try dsimp only at hSw); go_simp; (try with_reducible rfl))
                  simp only [Act.put, List.getElem_toArray, List.getElem_cons_succ, List.getElem_cons_zero, List.setIfInBounds_toArray, List.set_cons_zero, List.set_cons_succ]
                  refine wpAnyH_take (i := 3) (v := .agg (List.toArray BL)) rfl (by kernel_rfl) (by kernel_rfl) (by kernel_rfl) (fun _ _ _ h => h) (yieldsIf_load_mid (by kernel_rfl) _ (.tmp 145) (by kernel_rfl) b5 (o5 + i * 3) (by kernel_rfl) BL _ (fun W hW => hW.1) humB rfl hiB) (by assumption) ?_
                  simp only [Act.put, List.getElem_toArray, List.getElem_cons_succ, List.getElem_cons_zero, List.setIfInBounds_toArray, List.set_cons_zero, List.set_cons_succ]
                  refine wpAnyH_take (i := 4) rfl (by kernel_rfl) (by kernel_rfl) (by kernel_rfl) (fun _ _ _ h => h) (yi_move (by kernel_rfl) rfl rfl) (by assumption) ?_
                  simp only [Act.put, List.getElem_toArray, List.getElem_cons_succ, List.getElem_cons_zero, List.setIfInBounds_toArray, List.set_cons_zero, List.set_cons_succ]
                  refine wpAnyH_take (i := 5) rfl (by kernel_rfl) (by kernel_rfl) (by kernel_rfl) (fun _ _ _ h => h) (yi_move (by kernel_rfl) rfl rfl) (by assumption) ?_
                  simp only [Act.put, List.getElem_toArray, List.getElem_cons_succ, List.getElem_cons_zero, List.setIfInBounds_toArray, List.set_cons_zero, List.set_cons_succ]
                  refine wpAnyH_take (i := 6) (v := ?_) rfl (by kernel_rfl) (by kernel_rfl) (by kernel_rfl) (fun _ _ _ h => h) (Or.inl ⟨by kernel_rfl, ?_⟩) (by assumption) ?_
                  rotate_left
                  · (intro w hSw; (try dsimp only at hSw); go_simp; (try with_reducible rfl))
                  simp only [Act.put, List.getElem_toArray, List.getElem_cons_succ, List.getElem_cons_zero, List.setIfInBounds_toArray, List.set_cons_zero, List.set_cons_succ]
                  refine wpAnyH_take (i := 7) (v := .agg (List.toArray BL)) rfl (by kernel_rfl) (by kernel_rfl) (by kernel_rfl) (fun _ _ _ h => h) (yieldsIf_load_mid (by kernel_rfl) _ (.tmp 149) (by kernel_rfl) b7 (o7 + i * 3) (by kernel_rfl) BL _ (fun W hW => hW.2.1) humB rfl hiB) (by assumption) ?_
                  simp only [Act.put, List.getElem_toArray, List.getElem_cons_succ, List.getElem_cons_zero, List.setIfInBounds_toArray, List.set_cons_zero, List.set_cons_succ]
                  refine wpAnyH_take (i := 8) (v := ?_) rfl (by kernel_rfl) (by kernel_rfl) (by kernel_rfl) (fun _ _ _ h => h) (Or.inl ⟨by kernel_rfl, ?_⟩) (by assumption) ?_
                  rotate_left
                  · (intro w hSw; (try dsimp only at hSw); go_simp; (try with_reducible rfl))
                  simp only [Act.put, List.getElem_toArray, List.getElem_cons_succ, List.getElem_cons_zero, List.setIfInBounds_toArray, List.set_cons_zero, List.set_cons_succ]
                  refine wpAnyH_take (i := 9) rfl (by kernel_rfl) (by kernel_rfl) (by kernel_rfl) (fun _ _ _ h => h) (yi_move (by kernel_rfl) rfl rfl) (by assumption) ?_
                  simp only [Act.put, List.getElem_toArray, List.getElem_cons_succ, List.getElem_cons_zero, List.setIfInBounds_toArray, List.set_cons_zero, List.set_cons_succ]
                  refine wpAnyH_take (i := 10) rfl (by kernel_rfl) (by kernel_rfl) (by kernel_rfl) (fun _ _ _ h => h) (yi_move (by kernel_rfl) rfl rfl) (by assumption) ?_
                  simp only [Act.put, List.getElem_toArray, List.getElem_cons_succ, List.getElem_cons_zero, List.setIfInBounds_toArray, List.set_cons_zero, List.set_cons_succ]
                  refine wpAnyH_take (i := 11) rfl (by kernel_rfl) (by kernel_rfl) (by kernel_rfl) (fun _ _ _ h => h) (yi_move (by kernel_rfl) rfl rfl) (by assumption) ?_
                  simp only [Act.put, List.getElem_toArray, List.getElem_cons_succ, List.getElem_cons_zero, List.setIfInBounds_toArray, List.set_cons_zero, List.set_cons_succ]
                  refine wpAnyH_take (i := 12) (v := ?_) rfl (by kernel_rfl) (by kernel_rfl) (by kernel_rfl) (fun _ _ _ h => h) (Or.inl ⟨by kernel_rfl, ?_⟩) (by assumption) ?_
                  rotate_left
                  · (intro w hSw; (try dsimp only at hSw); go_simp; (try with_reducible rfl))
                  simp only [Act.put, List.getElem_toArray, List.getElem_cons_succ, List.getElem_cons_zero, List.setIfInBounds_toArray, List.set_cons_zero, List.set_cons_succ]
                  refine wpAnyH_take (i := 13) (v := .agg (List.toArray DL)) rfl (by kernel_rfl) (by kernel_rfl) (by kernel_rfl) (fun _ _ _ h => h) (yieldsIf_load_mid (by kernel_rfl) _ (.tmp 155) (by kernel_rfl) b6 (o6 + i * 32) (by kernel_rfl) DL _ (fun W hW => hW.2.2.1) und27 rfl hiD) (by assumption) ?_
                  simp only [Act.put, List.getElem_toArray, List.getElem_cons_succ, List.getElem_cons_zero, List.setIfInBounds_toArray, List.set_cons_zero, List.set_cons_succ]
                  refine wpAnyH_take (i := 14) rfl (by kernel_rfl) (by kernel_rfl) (by kernel_rfl) (fun _ _ _ h => h) (yi_move (by kernel_rfl) rfl rfl) (by assumption) ?_
                  simp only [Act.put, List.getElem_toArray, List.getElem_cons_succ, List.getElem_cons_zero, List.setIfInBounds_toArray, List.set_cons_zero, List.set_cons_succ]
                  refine wpAnyH_take (i := 15) rfl (by kernel_rfl) (by kernel_rfl) (by kernel_rfl) (fun _ _ _ h => h) (yi_move (by kernel_rfl) rfl rfl) (by assumption) ?_
                  simp only [Act.put, List.getElem_toArray, List.getElem_cons_succ, List.getElem_cons_zero, List.setIfInBounds_toArray, List.set_cons_zero, List.set_cons_succ]
                  refine wpAnyH_take (i := 16) (v := ?_) rfl (by kernel_rfl) (by kernel_rfl) (by kernel_rfl) (fun _ _ _ h => h) (Or.inl ⟨by kernel_rfl, ?_⟩) (by assumption) ?_
                  rotate_left
                  · (intro w hSw; (try dsimp only at hSw); go_simp; (try with_reducible rfl))
                  simp only [Act.put, List.getElem_toArray, List.getElem_cons_succ, List.getElem_cons_zero, List.setIfInBounds_toArray, List.set_cons_zero, List.set_cons_succ]
                  refine wpAnyH_take (i := 17) (v := .agg (List.toArray DL)) rfl (by kernel_rfl) (by kernel_rfl) (by kernel_rfl) (fun _ _ _ h => h) (yieldsIf_load_mid (by kernel_rfl) _ (.tmp 159) (by kernel_rfl) b8 (o8 + i * 32) (by kernel_rfl) DL _ (fun W hW => hW.2.2.2) und27 rfl hiD) (by assumption) ?_
                  simp only [Act.put, List.getElem_toArray, List.getElem_cons_succ, List.getElem_cons_zero, List.setIfInBounds_toArray, List.set_cons_zero, List.set_cons_succ]
                  refine wpAnyH_take (i := 18) (v := ?_) rfl (by kernel_rfl) (by kernel_rfl) (by kernel_rfl) (fun _ _ _ h => h) (Or.inl ⟨by kernel_rfl, ?_⟩) (by assumption) ?_
                  rotate_left
                  · (intro w hSw; (try dsimp only at hSw); go_simp; (try with_reducible rfl))
                  simp only [Act.put, List.getElem_toArray, List.getElem_cons_succ, List.getElem_cons_zero, List.setIfInBounds_toArray, List.set_cons_zero, List.set_cons_succ]
                  refine wpAnyH_take (i := 19) (v := ?_) rfl (by kernel_rfl) (by kernel_rfl) (by kernel_rfl) (fun _ _ _ h => h) (Or.inl ⟨by kernel_rfl, ?_⟩) (by assumption) ?_
                  rotate_left
                  · (intro w hSw; (try dsimp only at hSw); go_simp; (try with_reducible rfl))
                  simp only [Act.put, List.getElem_toArray, List.getElem_cons_succ, List.getElem_cons_zero, List.setIfInBounds_toArray, List.set_cons_zero, List.set_cons_succ]
                  refine wpAnyH_done (by kernel_rfl) ?_ _
                  refine NoPanic.normal ?_
                  go_wp2_with fail
                  go_roundw
                  case rel => exact ⟨i + 1, by omega, by go_num, by rw [HPN.out], ((HCW.out.grow ((Bl.refl _).drewN 1))), HZR.out.step ((Bl.refl _).drewN 1)⟩
                  case measure => simp [intOf]; omega
            · obtain rfl : i = g.2.length := by omega
              go_wp2_with fail
              go_ret
              exact ⟨rfl, FIN.out _ HZR.out⟩
    · have CB5 : Hid (∀ U, Bl (W.alloc (.cells #[.slice sa g.1.length sc, .slice aa g.2.length ac] 25)) U → Calls Tryz.prog 6 #[.agg #[.slice sa g.1.length sc, .slice aa g.2.length ac], .slice a l.length c] U fun e w' => e = .returned (.tuple #[.slice none 0 0, .int .i64 (O.err g l : Int)]) ∧ Bl (W.alloc (.cells #[.slice sa g.1.length sc, .slice aa g.2.length ac] 25)) w') := fun U hU => by
        refine (CB.out U hU).mono ?_
        rintro e w' (⟨_, h1, h2⟩ | ⟨_, _, h, _⟩)
        · exact ⟨h1, hU.step h2⟩
        · exact absurd h h0
      have CK5 : Hid (∀ U, Bl (W.alloc (.cells #[.slice sa g.1.length sc, .slice aa g.2.length ac] 25)) U → Calls Tryz.prog 7 #[.agg #[.slice sa g.1.length sc, .slice aa g.2.length ac], .slice a l.length c] U fun e w' => e = .returned (.tuple #[.slice none 0 0, .int .i64 (O.err g l : Int)]) ∧ Bl (W.alloc (.cells #[.slice sa g.1.length sc, .slice aa g.2.length ac] 25)) w') := fun U hU => by
        refine (CK.out U hU).mono ?_
        rintro e w' (⟨_, h1, h2⟩ | ⟨_, _, h, _⟩)
        · exact ⟨h1, hU.step h2⟩
        · exact absurd h h0
      have hne : ((O.err g l : Int) != 0) = true := by rw [bne_iff_ne]; omega
      clear hG hT HB hg hk hv hln n3 n4 n6 CB CK hnv hnt h0
      generalize (O.err g l : Int) = er at *
      go_enter Tryz.func3, Tryz.ntmps3
      go_wp2_with (first
        | go_skip
        | (go_at_call 4; refine CA.out.mono ?_; clear CA; rintro e w1 ⟨rfl, H1⟩; obtain ⟨f0, f1⟩ := HFA.out w1 H1)
        | (go_at_call 5; refine (CG.out w1 H1).mono ?_; clear CG; rintro e w2 ⟨rfl, H2⟩; obtain ⟨g0, g1⟩ := HFA.out w2 H2)
        | (go_at_call 6; refine (CB5.out w2 H2).mono ?_; clear CB5; rintro e w3 ⟨rfl, H3⟩; obtain ⟨k0, k1⟩ := HFA.out w3 H3)
        | (go_at_call 7; refine (CK5.out w3 H3).mono ?_; clear CK5; rintro e w4 ⟨rfl, H4⟩))
      go_ret
      exact ⟨by simp, FIN.out _ H4⟩
end Go.Proofs.YtoehdohibdpgnaaGreatDoor
