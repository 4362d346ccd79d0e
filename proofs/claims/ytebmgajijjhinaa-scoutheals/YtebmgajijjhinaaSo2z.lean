/- The texts So21 So26 So22 So23 So28 So27 So29 So30 So24 So25 as one. -/
import Derived.Test.YtebmgajijjhinaaSo20
import Derived.Test.YtebmgajijjhinaaSo18
import Derived.Deep.RegionLaw
import Derived.Test.YtebmgajijjhinaaPurA
/- hearAck. -/
namespace Go.Proofs.Ytebmgajijjhinaa
open Go.RowKit Go.Maps
set_option linter.unusedVariables false
set_option linter.unusedSimpArgs false

theorem stepo_storeR {P : Program} {ops : Array Oper} {o : Oper} {a : Act} {w : World} {K : Act → World → Prop} {Q : Exit → Act → World → Prop} {E : Prop} (hgd : o.guard = none) (ty : TypeId) (x y : Operand) (ho : o.op = .store ty x y)
    (g : Nat) (cells : Array Value) (hx : a.eval x = .pointer (some ⟨g, 0, none⟩)) (hy : a.eval y = .agg cells) (t : TypeId) (old : Array Value) (hg : w.heap[g]? = some (.cells old t (0, 0))) (hi : (P.info? ty).map (·.size) = some cells.size) (hold : old.size = cells.size) (h1 : cells.all (·.oneCell') = true)
    (h : K (a.put o.dst undef) (w.setRow g cells)) : if Region.wanted o (yielded ops a.tmps) = true then Oper.wp P o a w K Q else E := by
  have hw : Region.wanted o (yielded ops a.tmps) = true := by simp [Region.wanted, hgd]
  rw [if_pos hw]
  exact wp_store_row ty x y ho g cells hx hy t old hg hi hold h1 h
/-- what lies below n is as in X -/
structure BW (n : Nat) (X U : World) : Prop where
  nn : n ≤ X.heap.size
  b : Below n X U
theorem BW.refl {n : Nat} {X : World} (h : n ≤ X.heap.size) : BW n X X := ⟨h, Below.refl _ _⟩
theorem BW.le {n : Nat} {X U : World} (h : BW n X U) : n ≤ U.heap.size := Nat.le_trans h.nn h.b.size
theorem BW.drewN {n : Nat} {X U : World} (h : BW n X U) (k : Nat) : BW n X (U.drewN k) := ⟨h.nn, ⟨h.b.os, h.b.tape, h.b.output, h.b.size, h.b.block⟩⟩
theorem BW.alloc {n : Nat} {X U : World} (h : BW n X U) (o : Obj) : BW n X (U.alloc o) := ⟨h.nn, Below.alloc h.b h.le o⟩
theorem BW.row {n : Nat} {X U : World} (h : BW n X U) (g : Nat) (C : Array Value) (hg : n ≤ g) : BW n X (U.setRow g C) := by
  have o := of1_setRow U g C
  exact ⟨h.nn, ⟨o.os.trans h.b.os, o.tape.trans h.b.tape, o.output.trans h.b.output, Nat.le_trans h.b.size o.size, fun k hk => (o.block k (Nat.lt_of_lt_of_le hk h.le) (by omega)).trans (h.b.block k hk)⟩⟩
theorem closeL_len (f : SO.Fr) : ∀ l : List SO.Er, (SO.closeL f l).length = l.length
  | [] => rfl
  | e :: r => by
    unfold SO.closeL
    split
    · rfl
    · rw [List.length_cons, closeL_len f r, List.length_cons]
/-- the errands' row has turned -/
theorem S0.errs {w W W' : World} {p : Nat} {P : Pl} {B : Nat → Prop} {N : Nat} {s : SO.Sc} (x : S0 w p P B N s W) (L : List SO.Er) (hL : L.length = s.er.length) (ho : W'.ownsRow w.heap.size tEr 5 P.ev s.er.length (flG lyE L)) (hg : W.grownBy W' P.ev.ownBlock) : S0 w p P B N { s with er := L } W' ∧ OS B B W W' := by
  have ne : ∀ {g : Nat} {C : Array Value} {T : TypeId}, W.heap[g]? = some (.cells C T (0, 0)) → T ≠ tEr → W'.heap[g]? = W.heap[g]? := fun {g C T} e t1 => hg.block g (lt_heap e) (fun e2 => by
    obtain ⟨D, hD⟩ := own_tag x.er e2.symm
    exact tags e hD t1 rfl)
  have nb : W'.heap[P.b]? = W.heap[P.b]? := by
    obtain ⟨es, c, hm⟩ := x.vt.mp.isMap
    refine hg.block _ (lt_heap hm) (fun e => ?_)
    obtain ⟨D, hD⟩ := own_tag x.er e.symm
    rw [hm] at hD; cases hD
  have hos : OS B B W W' := ⟨hg.os, hg.tape, hg.output, hg.size, fun k hk hn => hg.block k hk (fun e => hn (x.Be k e.symm)), fun k h => Or.inl h⟩
  have hbl : Bl w W' := hos.below x.bl (fun k h => (x.Bo k h).1)
  have nm := x.num
  refine ⟨⟨(ne x.row (by decide)).trans x.row, ⟨(ne x.vt.row (by decide)).trans x.vt.row, x.vt.mp.block nb, x.vt.q0, x.vt.b0, hbl⟩,
    ⟨(ne x.hl.row (by decide)).trans x.hl.row, own_keep x.hl.own (fun g C e e2 => ne e2 (by decide)), x.hl.b0, hbl, x.hl.rep, x.hl.ok, x.hl.t1, x.hl.t2⟩,
    x.ln.keep (fun g off C e e2 => ne e2 (by decide)), x.hp.keep (fun g off C e e2 => ne e2 (by decide)), by show W'.ownsRow _ _ _ _ L.length _; rw [hL]; exact ho, x.Bp, x.Bq, x.Bb, x.Bh, x.Bv, x.Bn, x.Ba, x.Be, fun k hk => ⟨(x.Bo k hk).1, Nat.lt_of_lt_of_le (x.Bo k hk).2 hg.size⟩,
    ⟨nm.n1, nm.n2, nm.q1, nm.q2, nm.s1, nm.s2, nm.m1, nm.m2, nm.m3, nm.p1, nm.p2, nm.ok, by show L.length ≤ 16; rw [hL]; exact nm.el, nm.ll, nm.l1, nm.hh⟩, x.lcp⟩, hos⟩
/-- a scout whose blocks lie below n -/
theorem S0.bw' {w W W' : World} {p : Nat} {P : Pl} {B : Nat → Prop} {N n : Nat} {s : SO.Sc} (x : S0 w p P B N s W) (hB : ∀ k, B k → k < n) (hw : w.heap.size ≤ n) (h : BW n W W') : S0 w p P B N s W' :=
  x.keep h.b.size ⟨h.b.os.trans x.bl.os, h.b.tape.trans x.bl.tape, h.b.output.trans x.bl.output, Nat.le_trans x.bl.size h.b.size, fun k hk => (h.b.block k (by omega)).trans (x.bl.block k hk)⟩ (fun k hk => h.b.block k (hB k hk))
/-- what is there behind probe.hear: close may be called -/
structure RK (w : World) (p : Nat) (B : Nat → Prop) (W : World) (N : Nat) (s2 : SO.Sc) (FL : List Value) (oe : Option SO.Er) (ev : Value) (w3 : World) : Prop where
  k3 : ∀ U, BW w3.heap.size w3 U → U.cell? ⟨p, 18, none⟩ = some ev ∧ U.rangeAt W.heap.size 0 FL
  cl : ∀ U, BW w3.heap.size w3 U → Calls Try.prog 46 #[ev, .agg FL.toArray] U fun e V => e = .returned (clV oe) ∧ BW w3.heap.size V V ∧ Hid (∀ U', BW w3.heap.size V U' → (U'.cell? ⟨p, 18, none⟩ = some ev ∧ U'.rangeAt W.heap.size 0 FL) ∧ SX w p B W N s2 U') ∧ Hid (∀ C t, U.heap[w3.heap.size]? = some (.cells C t (0, 0)) → V.heap[w3.heap.size]? = some (.cells C t (0, 0)))
theorem rk {w W w3 : World} {p N : Nat} {B B3 : Nat → Prop} {P3 : Pl} {s1 : SO.Sc} (x : S0 w p P3 B3 N s1 w3) (o : OS B B3 W w3) (FL : List Value) (f : SO.Fr) (a : Option Addr) (c : Nat) (hf : FrC FL f a c) (hbx : w3.heap[W.heap.size]? = some (.cells FL.toArray tFr (0, 0))) (hnb : ¬ B3 W.heap.size) : RK w p B W N { s1 with er := SO.closeL f s1.er } FL (s1.er.find? (SO.fitE f)) P3.ev w3 := by
  have hB : ∀ k, B3 k → k < w3.heap.size := fun k h => (x.Bo k h).2
  have hw : w.heap.size ≤ w3.heap.size := x.bl.size
  have hW : W.heap.size < w3.heap.size := lt_heap hbx
  have rg : ∀ U : World, U.heap[W.heap.size]? = w3.heap[W.heap.size]? → U.rangeAt W.heap.size 0 FL := fun U h j v hv => by
    rw [hbx] at h
    rw [Nat.zero_add]; exact cellL h hv
  refine ⟨fun U h => ⟨(x.bw' hB hw h).c18, rg U (h.b.block _ hW)⟩, fun U h => ?_⟩
  have xU := x.bw' hB hw h
  refine (close_x xU.er (by have := xU.num.el; omega) FL f a c hf).mono ?_
  rintro e V ⟨rfl, g1, g2⟩
  obtain ⟨y1, y2⟩ := xU.errs (SO.closeL f s1.er) (closeL_len f s1.er) g1 g2
  have hle : w3.heap.size ≤ V.heap.size := Nat.le_trans h.le g2.size
  refine ⟨rfl, BW.refl hle, fun U' h' => ?_, fun C t hC => ?_⟩
  · have y3 := y1.bw' hB hw h'
    have hb2 : U'.heap[W.heap.size]? = w3.heap[W.heap.size]? := by
      rw [h'.b.block _ hW, y2.block _ (Nat.lt_of_lt_of_le hW h.le) hnb, h.b.block _ hW]
    refine ⟨⟨y3.c18, rg U' hb2⟩, SX.of y3 (o.trans ⟨h'.b.os.trans (y2.os.trans h.b.os), h'.b.tape.trans (y2.tape.trans h.b.tape), h'.b.output.trans (y2.output.trans h.b.output), Nat.le_trans hle h'.b.size, fun k hk hn => ?_, fun k hk => Or.inl hk⟩)⟩
    rw [h'.b.block k hk, y2.block k (Nat.lt_of_lt_of_le hk h.le) hn, h.b.block k hk]
  · rw [y2.block _ (lt_heap hC) (fun hB' => by have := hB _ hB'; omega)]
    exact hC
theorem cells5 {w : World} {b : Nat} {x y z u v : Value} {t : TypeId} (h : w.heap[b]? = some (.cells #[x, y, z, u, v] t (0, 0))) : w.cell? ⟨b, 1, none⟩ = some y ∧ w.cell? ⟨b, 2, none⟩ = some z ∧ w.cell? ⟨b, 3, none⟩ = some u := ⟨by rw [Lib.cell_of_heap h]; rfl, by rw [Lib.cell_of_heap h]; rfl, by rw [Lib.cell_of_heap h]; rfl⟩
theorem pHear_er (s : SO.Sc) (f : SO.Fr) : (SO.pHear s f).er = s.er := by unfold SO.pHear; split <;> rfl
theorem er_one (e : SO.Er) : (erV e).all (·.oneCell') = true := by simp [erV, lyE, Value.oneCell']
set_option maxRecDepth 8000 in
set_option maxHeartbeats 4000000 in
theorem hearAck_x {w W : World} {p : Nat} {P : Pl} {B : Nat → Prop} {N : Nat} {s : SO.Sc} (x : S0 w p P B N s W) (FL : List Value) (f : SO.Fr) (a : Option Addr) (c : Nat) (hf : FrC FL f a c) :
    Calls Try.prog 26 #[.pointer (some ⟨p, 0, none⟩), .agg FL.toArray] W fun e w' => Ans w p B W N (SO.ackE (SO.pHear s f) f).1 (SO.ackE (SO.pHear s f) f).2 e w' := by
  have hb0 : Bl W (W.alloc (.cells FL.toArray tFr)) := (Bl.refl W).alloc _
  have HB : Bl (W.alloc (.cells FL.toArray tFr)) (W.alloc (.cells FL.toArray tFr)) := Bl.refl _
  have HRG : Hid (∀ U, Bl (W.alloc (.cells FL.toArray tFr)) U → U.rangeAt W.heap.size 0 FL) := fun U h j v hv => by rw [Nat.zero_add]; exact cellL h.box hv
  have CP : Hid (∀ U, Bl (W.alloc (.cells FL.toArray tFr)) U → Calls Try.prog 45 #[.pointer (some ⟨p, 14, none⟩), .agg FL.toArray] U fun e w3 => e = .returned (.tuple #[]) ∧ w3.rangeAt W.heap.size 0 FL ∧ ∃ ev, RK w p B W N { SO.pHear s f with er := SO.closeL f (SO.pHear s f).er } FL ((SO.pHear s f).er.find? (SO.fitE f)) ev w3) := fun U h => by
    have xU := x.grow (hb0.step h)
    refine (pHear_x xU FL f a c hf).mono ?_
    rintro e w3 ⟨rfl, B3, ⟨P3, x3⟩, o3⟩
    have hnb0 : ¬ B W.heap.size := fun hB => by have := (x.Bo _ hB).2; omega
    have hbx : w3.heap[W.heap.size]? = some (.cells FL.toArray tFr (0, 0)) := (o3.block _ (lt_heap h.box) hnb0).trans h.box
    have hnb3 : ¬ B3 W.heap.size := fun hB => by
      rcases o3.own _ hB with h1 | h1
      · exact hnb0 h1
      · have := lt_heap h.box; omega
    exact ⟨rfl, fun j v hv => by rw [Nat.zero_add]; exact cellL hbx hv, P3.ev, rk x3 ((OS.of_bl (hb0.step h)).trans o3) FL f a c hf hbx hnb3⟩
  obtain ⟨fs, humF⟩ := undFr
  have hiF : (Try.prog.info? tFr).map (·.size) = some FL.length := by rw [hf.len]; exact infoFr
  have HAK : Hid (SO.ackE (SO.pHear s f) f = match (SO.pHear s f).er.find? (SO.fitE f) with
    | some e => (SO.tellS { SO.pHear s f with er := SO.closeL f (SO.pHear s f).er } [SO.ack e.asker e.asked e.node], SO.tellL { SO.pHear s f with er := SO.closeL f (SO.pHear s f).er } [SO.ack e.asker e.asked e.node])
    | none => (SO.pHear s f, [])) := rfl
  have HCN : (SO.pHear s f).er.find? (SO.fitE f) = none → ({ SO.pHear s f with er := SO.closeL f (SO.pHear s f).er } : SO.Sc) = SO.pHear s f := fun h => by
    rw [closeL_none (fun i y hi hy => by
      have := List.find?_eq_none.1 h y (List.mem_of_getElem? hy)
      simpa using this)]
  clear x hb0 hf
  generalize SO.pHear s f = s1 at *
  cases hfe : s1.er.find? (SO.fitE f) with
  | none =>
    rw [hfe] at CP HAK
    rw [HCN hfe] at CP
    have HE : Hid ((SO.ackE s1 f).1 = s1 ∧ (SO.ackE s1 f).2 = []) := by show _ ∧ _; rw [HAK.out]; exact ⟨rfl, rfl⟩
    rw [HE.out.1, HE.out.2]
    clear HAK HE HCN hfe
    go_enter Try.func26, Try.ntmps26
    go_wp2_with fail
    refine wp_region_noPanic ?_
    refine wp_region_held_drew (S := fun U => U.rangeAt W.heap.size 0 FL) (by kernel_rfl) ((by first | exact HRG.out _ (HB.drewN 1) | exact (HB.drewN 1).1)) (fun hHeld => ?_)
    refine wpAnyH_take (i := 0) rfl (by kernel_rfl) (by kernel_rfl) (by kernel_rfl) (fun _ _ _ h => h) (yi_move (by kernel_rfl) rfl rfl) (by assumption) ?_
    simp only [Act.put, List.getElem_toArray, List.getElem_cons_succ, List.getElem_cons_zero, List.setIfInBounds_toArray, List.set_cons_zero, List.set_cons_succ]
    refine wpAnyH_take (i := 1) (v := ?_) rfl (by kernel_rfl) (by kernel_rfl) (by kernel_rfl) (fun _ _ _ h => h) (Or.inl ⟨by kernel_rfl, ?_⟩) (by assumption) ?_
    rotate_left
    · (intro w hSw; (try dsimp only at hSw); go_simp; (try with_reducible rfl))
    simp only [Act.put, List.getElem_toArray, List.getElem_cons_succ, List.getElem_cons_zero, List.setIfInBounds_toArray, List.set_cons_zero, List.set_cons_succ]
    refine wpAnyH_take (i := 2) (v := ?_) rfl (by kernel_rfl) (by kernel_rfl) (by kernel_rfl) (fun _ _ _ h => h) (Or.inl ⟨by kernel_rfl, ?_⟩) (by assumption) ?_
    rotate_left
    · (intro w hSw; (try dsimp only at hSw); go_simp; (try with_reducible rfl))
    simp only [Act.put, List.getElem_toArray, List.getElem_cons_succ, List.getElem_cons_zero, List.setIfInBounds_toArray, List.set_cons_zero, List.set_cons_succ]
    refine wpAnyH_take (i := 3) (v := .agg (List.toArray FL)) rfl (by kernel_rfl) (by kernel_rfl) (by kernel_rfl) (fun _ _ _ h => h) (yieldsIf_load_mid (by kernel_rfl) _ (.tmp 3) (by kernel_rfl) W.heap.size 0 (by kernel_rfl) FL _ (fun W hW => hW) humF rfl hiF) (by assumption) ?_
    simp only [Act.put, List.getElem_toArray, List.getElem_cons_succ, List.getElem_cons_zero, List.setIfInBounds_toArray, List.set_cons_zero, List.set_cons_succ]
    refine wpAnyH_ready (rs := [4]) (by kernel_rfl) (by simp) ?_
    refine AllReadyH.cons (o := _) rfl (fun K hK => ?_) AllReadyH.nil
    go_simp
    go_at_call 45; refine (CP.out _ (HB.drewN 1)).mono ?_; rintro e w3 ⟨rfl, HB5⟩
    refine hK.out _ _ ((by first | exact HRG.out _ HB5 | exact HB5.1)) (fun hHeld => ?_)
    clear hK K
    (try simp only [Act.put, List.getElem_toArray, List.getElem_cons_succ, List.getElem_cons_zero, List.setIfInBounds_toArray, List.set_cons_zero, List.set_cons_succ])
    refine wpAnyH_done (by kernel_rfl) ?_ _
    refine NoPanic.normal ?_
    obtain ⟨_, ev, hrk⟩ := HB5
    have RKH := hidI hrk
    clear hrk
    have HB3 : BW w3.heap.size w3 w3 := BW.refl (Nat.le_refl _)
    go_wp2_with fail
    refine wp_region_noPanic ?_
    refine wp_region_held_drew (S := fun U => U.cell? ⟨p, 18, none⟩ = some ev ∧ U.rangeAt W.heap.size 0 FL) (by kernel_rfl) ((by first | exact RKH.out.k3 _ (HB3.drewN 1) | exact (FC.out _ (HB3.drewN 1)).1)) (fun hHeld => ?_)
    refine wpAnyH_take (i := 0) rfl (by kernel_rfl) (by kernel_rfl) (by kernel_rfl) (fun _ _ _ h => h) (yi_move (by kernel_rfl) rfl rfl) (by assumption) ?_
    simp only [Act.put, List.getElem_toArray, List.getElem_cons_succ, List.getElem_cons_zero, List.setIfInBounds_toArray, List.set_cons_zero, List.set_cons_succ]
    refine wpAnyH_take (i := 1) (v := ?_) rfl (by kernel_rfl) (by kernel_rfl) (by kernel_rfl) (fun _ _ _ h => h) (Or.inl ⟨by kernel_rfl, ?_⟩) (by assumption) ?_
    rotate_left
    · (intro w hSw; (try dsimp only at hSw); go_simp; (try with_reducible rfl))
    simp only [Act.put, List.getElem_toArray, List.getElem_cons_succ, List.getElem_cons_zero, List.setIfInBounds_toArray, List.set_cons_zero, List.set_cons_succ]
    refine wpAnyH_take (i := 2) (v := ?_) rfl (by kernel_rfl) (by kernel_rfl) (by kernel_rfl) (fun _ _ _ h => h) (Or.inl ⟨by kernel_rfl, ?_⟩) (by assumption) ?_
    rotate_left
    · (intro w hSw; (try dsimp only at hSw); go_simp; (try with_reducible rfl))
    simp only [Act.put, List.getElem_toArray, List.getElem_cons_succ, List.getElem_cons_zero, List.setIfInBounds_toArray, List.set_cons_zero, List.set_cons_succ]
    refine wpAnyH_take (i := 3) (v := ?_) rfl (by kernel_rfl) (by kernel_rfl) (by kernel_rfl) (fun _ _ _ h => h) (Or.inl ⟨by kernel_rfl, ?_⟩) (by assumption) ?_
    rotate_left
    · (intro w hSw; obtain ⟨z1, z2⟩ := hSw; go_simp; (try with_reducible rfl))
    simp only [Act.put, List.getElem_toArray, List.getElem_cons_succ, List.getElem_cons_zero, List.setIfInBounds_toArray, List.set_cons_zero, List.set_cons_succ]
    refine wpAnyH_take (i := 4) (v := .agg (List.toArray FL)) rfl (by kernel_rfl) (by kernel_rfl) (by kernel_rfl) (fun _ _ _ h => h) (yieldsIf_load_mid (by kernel_rfl) _ (.tmp 3) (by kernel_rfl) W.heap.size 0 (by kernel_rfl) FL _ (fun W hW => hW.2) humF rfl hiF) (by assumption) ?_
    simp only [Act.put, List.getElem_toArray, List.getElem_cons_succ, List.getElem_cons_zero, List.setIfInBounds_toArray, List.set_cons_zero, List.set_cons_succ]
    refine wpAnyH_ready (rs := [5, 9]) (by kernel_rfl) (by simp) ?_
    refine AllReadyH.cons (o := _) rfl (fun K hK => ?_) ?_
    · go_simp
      go_at_call 46; refine (RKH.out.cl _ (HB3.drewN 1)).mono ?_; rintro e V6 ⟨he, HB6, FC, HK⟩; have he2 : e = .returned (.tuple #[.agg #[.int .i64 0, .int .i64 0, .int .i64 0, .int .i64 0, .bool false], .bool false]) := he; subst he2; clear he; have HBV := HB6; (try have BX := HK.out _ _ (heap_alloc_new _ _))
      refine hK.out _ _ ((by first | exact RKH.out.k3 _ HB6 | exact (FC.out _ HB6).1)) (fun hHeld => ?_)
      clear hK K
      (try simp only [Act.put, List.getElem_toArray, List.getElem_cons_succ, List.getElem_cons_zero, List.setIfInBounds_toArray, List.set_cons_zero, List.set_cons_succ])
      refine wpAnyH_take (i := 6) rfl (by kernel_rfl) (by kernel_rfl) (by kernel_rfl) (fun _ _ _ h => h) (yi_move (by kernel_rfl) rfl rfl) (by assumption) ?_
      simp only [Act.put, List.getElem_toArray, List.getElem_cons_succ, List.getElem_cons_zero, List.setIfInBounds_toArray, List.set_cons_zero, List.set_cons_succ]
      refine wpAnyH_take (i := 7) (v := ?_) rfl (by kernel_rfl) (by kernel_rfl) (by kernel_rfl) (fun _ _ _ h => h) (Or.inl ⟨by kernel_rfl, ?_⟩) (by assumption) ?_
      rotate_left
      · (intro w hSw; (try dsimp only at hSw); go_simp; (try with_reducible rfl))
      simp only [Act.put, List.getElem_toArray, List.getElem_cons_succ, List.getElem_cons_zero, List.setIfInBounds_toArray, List.set_cons_zero, List.set_cons_succ]
      refine wpAnyH_take (i := 8) (v := ?_) rfl (by kernel_rfl) (by kernel_rfl) (by kernel_rfl) (fun _ _ _ h => h) (Or.inl ⟨by kernel_rfl, ?_⟩) (by assumption) ?_
      rotate_left
      · (intro w hSw; (try dsimp only at hSw); go_simp; (try with_reducible rfl))
      simp only [Act.put, List.getElem_toArray, List.getElem_cons_succ, List.getElem_cons_zero, List.setIfInBounds_toArray, List.set_cons_zero, List.set_cons_succ]
      refine wpAnyH_ready (rs := [9]) (by kernel_rfl) (by simp) ?_
      refine AllReadyH.cons (o := _) rfl (fun K hK => ?_) AllReadyH.nil
      go_simp
      refine hK.out _ _ ((by first | exact RKH.out.k3 _ ((HB6).alloc _) | exact (FC.out _ ((HB6).alloc _)).1)) (fun hHeld => ?_)
      clear hK K
      (try simp only [Act.put, List.getElem_toArray, List.getElem_cons_succ, List.getElem_cons_zero, List.setIfInBounds_toArray, List.set_cons_zero, List.set_cons_succ])
      refine wpAnyH_ready (rs := [10]) (by kernel_rfl) (by simp) ?_
      refine AllReadyH.cons (o := _) rfl (fun K hK => ?_) AllReadyH.nil
      refine stepo_storeR rfl tEr _ _ rfl _ #[.int .i64 0, .int .i64 0, .int .i64 0, .int .i64 0, .bool false] (by rfl) (by rfl) tEr #[.int .i64 0, .int .i64 0, .int .i64 0, .int .i64 0, .bool false] (by first | exact BX | exact heap_alloc_new _ _) infoEr rfl (by simp [Value.oneCell']) (hK.out _ _ ((by first | exact RKH.out.k3 _ ((((HB6).alloc _)).row _ _ (by first | exact Nat.le_refl _ | exact HBV.le)) | exact (FC.out _ ((((HB6).alloc _)).row _ _ (by first | exact Nat.le_refl _ | exact HBV.le))).1)) (fun hHeld => ?_))
      clear hK K
      (try simp only [Act.put, List.getElem_toArray, List.getElem_cons_succ, List.getElem_cons_zero, List.setIfInBounds_toArray, List.set_cons_zero, List.set_cons_succ])
      refine wpAnyH_take (i := 11) rfl (by kernel_rfl) (by kernel_rfl) (by kernel_rfl) (fun _ _ _ h => h) (yi_assign (by kernel_rfl) rfl rfl) (by assumption) ?_
      simp only [Act.put, List.getElem_toArray, List.getElem_cons_succ, List.getElem_cons_zero, List.setIfInBounds_toArray, List.set_cons_zero, List.set_cons_succ]
      refine wpAnyH_done (by kernel_rfl) ?_ _
      refine NoPanic.normal ?_
      go_wp2_with fail
      go_ret
      exact ans_none (FC.out _ (((((HB6).alloc _)).row _ _ (by first | exact Nat.le_refl _ | exact HBV.le)))).2
    refine AllReadyH.cons (o := _) rfl (fun K hK => ?_) ?_
    · go_simp
      refine hK.out _ _ ((by first | exact RKH.out.k3 _ (((HB3.drewN 1)).alloc _) | exact (FC.out _ (((HB3.drewN 1)).alloc _)).1)) (fun hHeld => ?_)
      clear hK K
      (try simp only [Act.put, List.getElem_toArray, List.getElem_cons_succ, List.getElem_cons_zero, List.setIfInBounds_toArray, List.set_cons_zero, List.set_cons_succ])
      refine wpAnyH_ready (rs := [5]) (by kernel_rfl) (by simp) ?_
      refine AllReadyH.cons (o := _) rfl (fun K hK => ?_) AllReadyH.nil
      go_simp
      go_at_call 46; refine (RKH.out.cl _ (((HB3.drewN 1)).alloc _)).mono ?_; rintro e V13 ⟨he, HB13, FC, HK⟩; have he2 : e = .returned (.tuple #[.agg #[.int .i64 0, .int .i64 0, .int .i64 0, .int .i64 0, .bool false], .bool false]) := he; subst he2; clear he; have HBV := HB13; (try have BX := HK.out _ _ (heap_alloc_new _ _))
      refine hK.out _ _ ((by first | exact RKH.out.k3 _ HB13 | exact (FC.out _ HB13).1)) (fun hHeld => ?_)
      clear hK K
      (try simp only [Act.put, List.getElem_toArray, List.getElem_cons_succ, List.getElem_cons_zero, List.setIfInBounds_toArray, List.set_cons_zero, List.set_cons_succ])
      refine wpAnyH_take (i := 6) rfl (by kernel_rfl) (by kernel_rfl) (by kernel_rfl) (fun _ _ _ h => h) (yi_move (by kernel_rfl) rfl rfl) (by assumption) ?_
      simp only [Act.put, List.getElem_toArray, List.getElem_cons_succ, List.getElem_cons_zero, List.setIfInBounds_toArray, List.set_cons_zero, List.set_cons_succ]
      refine wpAnyH_take (i := 7) (v := ?_) rfl (by kernel_rfl) (by kernel_rfl) (by kernel_rfl) (fun _ _ _ h => h) (Or.inl ⟨by kernel_rfl, ?_⟩) (by assumption) ?_
      rotate_left
      · (intro w hSw; (try dsimp only at hSw); go_simp; (try with_reducible rfl))
      simp only [Act.put, List.getElem_toArray, List.getElem_cons_succ, List.getElem_cons_zero, List.setIfInBounds_toArray, List.set_cons_zero, List.set_cons_succ]
      refine wpAnyH_take (i := 8) (v := ?_) rfl (by kernel_rfl) (by kernel_rfl) (by kernel_rfl) (fun _ _ _ h => h) (Or.inl ⟨by kernel_rfl, ?_⟩) (by assumption) ?_
      rotate_left
      · (intro w hSw; (try dsimp only at hSw); go_simp; (try with_reducible rfl))
      simp only [Act.put, List.getElem_toArray, List.getElem_cons_succ, List.getElem_cons_zero, List.setIfInBounds_toArray, List.set_cons_zero, List.set_cons_succ]
      refine wpAnyH_ready (rs := [10]) (by kernel_rfl) (by simp) ?_
      refine AllReadyH.cons (o := _) rfl (fun K hK => ?_) AllReadyH.nil
      refine stepo_storeR rfl tEr _ _ rfl _ #[.int .i64 0, .int .i64 0, .int .i64 0, .int .i64 0, .bool false] (by rfl) (by rfl) tEr #[.int .i64 0, .int .i64 0, .int .i64 0, .int .i64 0, .bool false] (by first | exact BX | exact heap_alloc_new _ _) infoEr rfl (by simp [Value.oneCell']) (hK.out _ _ ((by first | exact RKH.out.k3 _ ((HB13).row _ _ (by first | exact Nat.le_refl _ | exact HBV.le)) | exact (FC.out _ ((HB13).row _ _ (by first | exact Nat.le_refl _ | exact HBV.le))).1)) (fun hHeld => ?_))
      clear hK K
      (try simp only [Act.put, List.getElem_toArray, List.getElem_cons_succ, List.getElem_cons_zero, List.setIfInBounds_toArray, List.set_cons_zero, List.set_cons_succ])
      refine wpAnyH_take (i := 11) rfl (by kernel_rfl) (by kernel_rfl) (by kernel_rfl) (fun _ _ _ h => h) (yi_assign (by kernel_rfl) rfl rfl) (by assumption) ?_
      simp only [Act.put, List.getElem_toArray, List.getElem_cons_succ, List.getElem_cons_zero, List.setIfInBounds_toArray, List.set_cons_zero, List.set_cons_succ]
      refine wpAnyH_done (by kernel_rfl) ?_ _
      refine NoPanic.normal ?_
      go_wp2_with fail
      go_ret
      exact ans_none (FC.out _ (((HB13).row _ _ (by first | exact Nat.le_refl _ | exact HBV.le)))).2
    exact AllReadyH.nil
  | some e0 =>
    rw [hfe] at CP HAK
    obtain ⟨s2, hs2⟩ : ∃ s2, ({ s1 with er := SO.closeL f s1.er } : SO.Sc) = s2 := ⟨_, rfl⟩
    rw [hs2] at CP HAK
    have HE : Hid ((SO.ackE s1 f).1 = SO.tellS s2 [SO.ack e0.asker e0.asked e0.node] ∧ (SO.ackE s1 f).2 = SO.tellL s2 [SO.ack e0.asker e0.asked e0.node]) := by show _ ∧ _; rw [HAK.out]; exact ⟨rfl, rfl⟩
    rw [HE.out.1, HE.out.2]
    obtain ⟨z, hz1, hz2⟩ := infoSn3
    have CA : Hid (∀ U, SX w p B W N s2 U → Calls Try.prog 24 #[.int .i64 e0.asker, .int .i64 e0.asked, .int .i64 e0.node] U fun e w' => e = .returned (.agg (snL e0.asker 2 0 e0.asked e0.node zM nilV).toArray) ∧ SX w p B W N s2 w') := fun U h => ack_sx h _ _ _
    have CT : Hid (∀ U V, SX w p B W N s2 U → V = U.alloc (.cells (snL e0.asker 2 0 e0.asked e0.node zM nilV).toArray tSn) → Calls Try.prog 23 #[.pointer (some ⟨p, 0, none⟩), .slice (some ⟨U.heap.size, 0, none⟩) 1 1] V fun e w' => Ans w p B W N (SO.tellS s2 [SO.ack e0.asker e0.asked e0.node]) (SO.tellL s2 [SO.ack e0.asker e0.asked e0.node]) e w') := fun U V h hV => tell1_sx h (SO.ack e0.asker e0.asked e0.node) _ rfl V hV
    have hL : (snL e0.asker 2 0 e0.asked e0.node zM nilV).length = 238 := snL_len zM_len
    generalize SO.tellS s2 [SO.ack e0.asker e0.asked e0.node] = R1 at *
    generalize SO.tellL s2 [SO.ack e0.asker e0.asked e0.node] = R2 at *
    generalize snL e0.asker 2 0 e0.asked e0.node zM nilV = L at *
    clear HAK HE HCN hfe hs2
    obtain ⟨es, en, eas, ead, ec⟩ := e0
    simp only at CA
    go_enter Try.func26, Try.ntmps26
    go_wp2_with fail
    refine wp_region_noPanic ?_
    refine wp_region_held_drew (S := fun U => U.rangeAt W.heap.size 0 FL) (by kernel_rfl) ((by first | exact HRG.out _ (HB.drewN 1) | exact (HB.drewN 1).1)) (fun hHeld => ?_)
    refine wpAnyH_take (i := 0) rfl (by kernel_rfl) (by kernel_rfl) (by kernel_rfl) (fun _ _ _ h => h) (yi_move (by kernel_rfl) rfl rfl) (by assumption) ?_
    simp only [Act.put, List.getElem_toArray, List.getElem_cons_succ, List.getElem_cons_zero, List.setIfInBounds_toArray, List.set_cons_zero, List.set_cons_succ]
    refine wpAnyH_take (i := 1) (v := ?_) rfl (by kernel_rfl) (by kernel_rfl) (by kernel_rfl) (fun _ _ _ h => h) (Or.inl ⟨by kernel_rfl, ?_⟩) (by assumption) ?_
    rotate_left
    · (intro w hSw; (try dsimp only at hSw); go_simp; (try with_reducible rfl))
    simp only [Act.put, List.getElem_toArray, List.getElem_cons_succ, List.getElem_cons_zero, List.setIfInBounds_toArray, List.set_cons_zero, List.set_cons_succ]
    refine wpAnyH_take (i := 2) (v := ?_) rfl (by kernel_rfl) (by kernel_rfl) (by kernel_rfl) (fun _ _ _ h => h) (Or.inl ⟨by kernel_rfl, ?_⟩) (by assumption) ?_
    rotate_left
    · (intro w hSw; (try dsimp only at hSw); go_simp; (try with_reducible rfl))
    simp only [Act.put, List.getElem_toArray, List.getElem_cons_succ, List.getElem_cons_zero, List.setIfInBounds_toArray, List.set_cons_zero, List.set_cons_succ]
    refine wpAnyH_take (i := 3) (v := .agg (List.toArray FL)) rfl (by kernel_rfl) (by kernel_rfl) (by kernel_rfl) (fun _ _ _ h => h) (yieldsIf_load_mid (by kernel_rfl) _ (.tmp 3) (by kernel_rfl) W.heap.size 0 (by kernel_rfl) FL _ (fun W hW => hW) humF rfl hiF) (by assumption) ?_
    simp only [Act.put, List.getElem_toArray, List.getElem_cons_succ, List.getElem_cons_zero, List.setIfInBounds_toArray, List.set_cons_zero, List.set_cons_succ]
    refine wpAnyH_ready (rs := [4]) (by kernel_rfl) (by simp) ?_
    refine AllReadyH.cons (o := _) rfl (fun K hK => ?_) AllReadyH.nil
    go_simp
    go_at_call 45; refine (CP.out _ (HB.drewN 1)).mono ?_; rintro e w3 ⟨rfl, HB5⟩
    refine hK.out _ _ ((by first | exact HRG.out _ HB5 | exact HB5.1)) (fun hHeld => ?_)
    clear hK K
    (try simp only [Act.put, List.getElem_toArray, List.getElem_cons_succ, List.getElem_cons_zero, List.setIfInBounds_toArray, List.set_cons_zero, List.set_cons_succ])
    refine wpAnyH_done (by kernel_rfl) ?_ _
    refine NoPanic.normal ?_
    obtain ⟨_, ev, hrk⟩ := HB5
    have RKH := hidI hrk
    clear hrk
    have HB3 : BW w3.heap.size w3 w3 := BW.refl (Nat.le_refl _)
    go_wp2_with fail
    refine wp_region_noPanic ?_
    refine wp_region_held_drew (S := fun U => U.cell? ⟨p, 18, none⟩ = some ev ∧ U.rangeAt W.heap.size 0 FL) (by kernel_rfl) ((by first | exact RKH.out.k3 _ (HB3.drewN 1) | exact (FC.out _ (HB3.drewN 1)).1)) (fun hHeld => ?_)
    refine wpAnyH_take (i := 0) rfl (by kernel_rfl) (by kernel_rfl) (by kernel_rfl) (fun _ _ _ h => h) (yi_move (by kernel_rfl) rfl rfl) (by assumption) ?_
    simp only [Act.put, List.getElem_toArray, List.getElem_cons_succ, List.getElem_cons_zero, List.setIfInBounds_toArray, List.set_cons_zero, List.set_cons_succ]
    refine wpAnyH_take (i := 1) (v := ?_) rfl (by kernel_rfl) (by kernel_rfl) (by kernel_rfl) (fun _ _ _ h => h) (Or.inl ⟨by kernel_rfl, ?_⟩) (by assumption) ?_
    rotate_left
    · (intro w hSw; (try dsimp only at hSw); go_simp; (try with_reducible rfl))
    simp only [Act.put, List.getElem_toArray, List.getElem_cons_succ, List.getElem_cons_zero, List.setIfInBounds_toArray, List.set_cons_zero, List.set_cons_succ]
    refine wpAnyH_take (i := 2) (v := ?_) rfl (by kernel_rfl) (by kernel_rfl) (by kernel_rfl) (fun _ _ _ h => h) (Or.inl ⟨by kernel_rfl, ?_⟩) (by assumption) ?_
    rotate_left
    · (intro w hSw; (try dsimp only at hSw); go_simp; (try with_reducible rfl))
    simp only [Act.put, List.getElem_toArray, List.getElem_cons_succ, List.getElem_cons_zero, List.setIfInBounds_toArray, List.set_cons_zero, List.set_cons_succ]
    refine wpAnyH_take (i := 3) (v := ?_) rfl (by kernel_rfl) (by kernel_rfl) (by kernel_rfl) (fun _ _ _ h => h) (Or.inl ⟨by kernel_rfl, ?_⟩) (by assumption) ?_
    rotate_left
    · (intro w hSw; obtain ⟨z1, z2⟩ := hSw; go_simp; (try with_reducible rfl))
    simp only [Act.put, List.getElem_toArray, List.getElem_cons_succ, List.getElem_cons_zero, List.setIfInBounds_toArray, List.set_cons_zero, List.set_cons_succ]
    refine wpAnyH_take (i := 4) (v := .agg (List.toArray FL)) rfl (by kernel_rfl) (by kernel_rfl) (by kernel_rfl) (fun _ _ _ h => h) (yieldsIf_load_mid (by kernel_rfl) _ (.tmp 3) (by kernel_rfl) W.heap.size 0 (by kernel_rfl) FL _ (fun W hW => hW.2) humF rfl hiF) (by assumption) ?_
    simp only [Act.put, List.getElem_toArray, List.getElem_cons_succ, List.getElem_cons_zero, List.setIfInBounds_toArray, List.set_cons_zero, List.set_cons_succ]
    refine wpAnyH_ready (rs := [5, 9]) (by kernel_rfl) (by simp) ?_
    refine AllReadyH.cons (o := _) rfl (fun K hK => ?_) ?_
    · go_simp
      go_at_call 46; refine (RKH.out.cl _ (HB3.drewN 1)).mono ?_; rintro e V6 ⟨he, HB6, FC, HK⟩; have he2 : e = .returned (.tuple #[.agg #[.int .i64 es, .int .i64 en, .int .i64 eas, .int .i64 ead, .bool ec], .bool true]) := he; subst he2; clear he; have HBV := HB6; (try have BX := HK.out _ _ (heap_alloc_new _ _))
      refine hK.out _ _ ((by first | exact RKH.out.k3 _ HB6 | exact (FC.out _ HB6).1)) (fun hHeld => ?_)
      clear hK K
      (try simp only [Act.put, List.getElem_toArray, List.getElem_cons_succ, List.getElem_cons_zero, List.setIfInBounds_toArray, List.set_cons_zero, List.set_cons_succ])
      refine wpAnyH_take (i := 6) rfl (by kernel_rfl) (by kernel_rfl) (by kernel_rfl) (fun _ _ _ h => h) (yi_move (by kernel_rfl) rfl rfl) (by assumption) ?_
      simp only [Act.put, List.getElem_toArray, List.getElem_cons_succ, List.getElem_cons_zero, List.setIfInBounds_toArray, List.set_cons_zero, List.set_cons_succ]
      refine wpAnyH_take (i := 7) (v := ?_) rfl (by kernel_rfl) (by kernel_rfl) (by kernel_rfl) (fun _ _ _ h => h) (Or.inl ⟨by kernel_rfl, ?_⟩) (by assumption) ?_
      rotate_left
      · (intro w hSw; (try dsimp only at hSw); go_simp; (try with_reducible rfl))
      simp only [Act.put, List.getElem_toArray, List.getElem_cons_succ, List.getElem_cons_zero, List.setIfInBounds_toArray, List.set_cons_zero, List.set_cons_succ]
      refine wpAnyH_take (i := 8) (v := ?_) rfl (by kernel_rfl) (by kernel_rfl) (by kernel_rfl) (fun _ _ _ h => h) (Or.inl ⟨by kernel_rfl, ?_⟩) (by assumption) ?_
      rotate_left
      · (intro w hSw; (try dsimp only at hSw); go_simp; (try with_reducible rfl))
      simp only [Act.put, List.getElem_toArray, List.getElem_cons_succ, List.getElem_cons_zero, List.setIfInBounds_toArray, List.set_cons_zero, List.set_cons_succ]
      refine wpAnyH_ready (rs := [9]) (by kernel_rfl) (by simp) ?_
      refine AllReadyH.cons (o := _) rfl (fun K hK => ?_) AllReadyH.nil
      go_simp
      refine hK.out _ _ ((by first | exact RKH.out.k3 _ ((HB6).alloc _) | exact (FC.out _ ((HB6).alloc _)).1)) (fun hHeld => ?_)
      clear hK K
      (try simp only [Act.put, List.getElem_toArray, List.getElem_cons_succ, List.getElem_cons_zero, List.setIfInBounds_toArray, List.set_cons_zero, List.set_cons_succ])
      refine wpAnyH_ready (rs := [10]) (by kernel_rfl) (by simp) ?_
      refine AllReadyH.cons (o := _) rfl (fun K hK => ?_) AllReadyH.nil
      refine stepo_storeR rfl tEr _ _ rfl _ #[.int .i64 es, .int .i64 en, .int .i64 eas, .int .i64 ead, .bool ec] (by rfl) (by rfl) tEr #[.int .i64 0, .int .i64 0, .int .i64 0, .int .i64 0, .bool false] (by first | exact BX | exact heap_alloc_new _ _) infoEr rfl (by simp [Value.oneCell']) (hK.out _ _ ((by first | exact RKH.out.k3 _ ((((HB6).alloc _)).row _ _ (by first | exact Nat.le_refl _ | exact HBV.le)) | exact (FC.out _ ((((HB6).alloc _)).row _ _ (by first | exact Nat.le_refl _ | exact HBV.le))).1)) (fun hHeld => ?_))
      clear hK K
      (try simp only [Act.put, List.getElem_toArray, List.getElem_cons_succ, List.getElem_cons_zero, List.setIfInBounds_toArray, List.set_cons_zero, List.set_cons_succ])
      refine wpAnyH_take (i := 11) rfl (by kernel_rfl) (by kernel_rfl) (by kernel_rfl) (fun _ _ _ h => h) (yi_assign (by kernel_rfl) rfl rfl) (by assumption) ?_
      simp only [Act.put, List.getElem_toArray, List.getElem_cons_succ, List.getElem_cons_zero, List.setIfInBounds_toArray, List.set_cons_zero, List.set_cons_succ]
      refine wpAnyH_done (by kernel_rfl) ?_ _
      refine NoPanic.normal ?_
      (try rw [World.setRow_alloc_new])
      first | (have BM := cells5 (setRow_heap _ _ _ #[.int .i64 es, .int .i64 en, .int .i64 eas, .int .i64 ead, .bool ec] _ _ BX); have m1 := BM.1; have m2 := BM.2.1; have m3 := BM.2.2; clear BM) | skip
      go_wp2_with (first
        | (go_at_call 24; refine (CA.out _ (by first | exact (FC.out _ (((((HB6).alloc _)).row _ _ (by first | exact Nat.le_refl _ | exact HBV.le)))).2 | exact (FC.out _ (HBV.alloc _)).2)).mono ?_; rintro e w6 ⟨rfl, h6⟩; have HX := hidI h6; clear h6)
        | (refine wl_bs1 rfl 28 tSn _ rfl L 238 408 (.agg z) undSs hz1 hL (by omega) (by omega) rfl ?_)
        | (go_at_call 23; refine (CT.out _ _ HX.out rfl).mono ?_; clear HX; rintro e w7 h7; obtain ⟨a7, c7, ys7, B7, rfl, h8⟩ := h7; have H8 := hidI h8; clear h8))
      go_ret
      exact ⟨a7, c7, ys7, B7, rfl, H8.out⟩
    refine AllReadyH.cons (o := _) rfl (fun K hK => ?_) ?_
    · go_simp
      refine hK.out _ _ ((by first | exact RKH.out.k3 _ (((HB3.drewN 1)).alloc _) | exact (FC.out _ (((HB3.drewN 1)).alloc _)).1)) (fun hHeld => ?_)
      clear hK K
      (try simp only [Act.put, List.getElem_toArray, List.getElem_cons_succ, List.getElem_cons_zero, List.setIfInBounds_toArray, List.set_cons_zero, List.set_cons_succ])
      refine wpAnyH_ready (rs := [5]) (by kernel_rfl) (by simp) ?_
      refine AllReadyH.cons (o := _) rfl (fun K hK => ?_) AllReadyH.nil
      go_simp
      go_at_call 46; refine (RKH.out.cl _ (((HB3.drewN 1)).alloc _)).mono ?_; rintro e V13 ⟨he, HB13, FC, HK⟩; have he2 : e = .returned (.tuple #[.agg #[.int .i64 es, .int .i64 en, .int .i64 eas, .int .i64 ead, .bool ec], .bool true]) := he; subst he2; clear he; have HBV := HB13; (try have BX := HK.out _ _ (heap_alloc_new _ _))
      refine hK.out _ _ ((by first | exact RKH.out.k3 _ HB13 | exact (FC.out _ HB13).1)) (fun hHeld => ?_)
      clear hK K
      (try simp only [Act.put, List.getElem_toArray, List.getElem_cons_succ, List.getElem_cons_zero, List.setIfInBounds_toArray, List.set_cons_zero, List.set_cons_succ])
      refine wpAnyH_take (i := 6) rfl (by kernel_rfl) (by kernel_rfl) (by kernel_rfl) (fun _ _ _ h => h) (yi_move (by kernel_rfl) rfl rfl) (by assumption) ?_
      simp only [Act.put, List.getElem_toArray, List.getElem_cons_succ, List.getElem_cons_zero, List.setIfInBounds_toArray, List.set_cons_zero, List.set_cons_succ]
      refine wpAnyH_take (i := 7) (v := ?_) rfl (by kernel_rfl) (by kernel_rfl) (by kernel_rfl) (fun _ _ _ h => h) (Or.inl ⟨by kernel_rfl, ?_⟩) (by assumption) ?_
      rotate_left
      · (intro w hSw; (try dsimp only at hSw); go_simp; (try with_reducible rfl))
      simp only [Act.put, List.getElem_toArray, List.getElem_cons_succ, List.getElem_cons_zero, List.setIfInBounds_toArray, List.set_cons_zero, List.set_cons_succ]
      refine wpAnyH_take (i := 8) (v := ?_) rfl (by kernel_rfl) (by kernel_rfl) (by kernel_rfl) (fun _ _ _ h => h) (Or.inl ⟨by kernel_rfl, ?_⟩) (by assumption) ?_
      rotate_left
      · (intro w hSw; (try dsimp only at hSw); go_simp; (try with_reducible rfl))
      simp only [Act.put, List.getElem_toArray, List.getElem_cons_succ, List.getElem_cons_zero, List.setIfInBounds_toArray, List.set_cons_zero, List.set_cons_succ]
      refine wpAnyH_ready (rs := [10]) (by kernel_rfl) (by simp) ?_
      refine AllReadyH.cons (o := _) rfl (fun K hK => ?_) AllReadyH.nil
      refine stepo_storeR rfl tEr _ _ rfl _ #[.int .i64 es, .int .i64 en, .int .i64 eas, .int .i64 ead, .bool ec] (by rfl) (by rfl) tEr #[.int .i64 0, .int .i64 0, .int .i64 0, .int .i64 0, .bool false] (by first | exact BX | exact heap_alloc_new _ _) infoEr rfl (by simp [Value.oneCell']) (hK.out _ _ ((by first | exact RKH.out.k3 _ ((HB13).row _ _ (by first | exact Nat.le_refl _ | exact HBV.le)) | exact (FC.out _ ((HB13).row _ _ (by first | exact Nat.le_refl _ | exact HBV.le))).1)) (fun hHeld => ?_))
      clear hK K
      (try simp only [Act.put, List.getElem_toArray, List.getElem_cons_succ, List.getElem_cons_zero, List.setIfInBounds_toArray, List.set_cons_zero, List.set_cons_succ])
      refine wpAnyH_take (i := 11) rfl (by kernel_rfl) (by kernel_rfl) (by kernel_rfl) (fun _ _ _ h => h) (yi_assign (by kernel_rfl) rfl rfl) (by assumption) ?_
      simp only [Act.put, List.getElem_toArray, List.getElem_cons_succ, List.getElem_cons_zero, List.setIfInBounds_toArray, List.set_cons_zero, List.set_cons_succ]
      refine wpAnyH_done (by kernel_rfl) ?_ _
      refine NoPanic.normal ?_
      (try rw [World.setRow_alloc_new])
      first | (have BM := cells5 (setRow_heap _ _ _ #[.int .i64 es, .int .i64 en, .int .i64 eas, .int .i64 ead, .bool ec] _ _ BX); have m1 := BM.1; have m2 := BM.2.1; have m3 := BM.2.2; clear BM) | skip
      go_wp2_with (first
        | (go_at_call 24; refine (CA.out _ (by first | exact (FC.out _ (((HB13).row _ _ (by first | exact Nat.le_refl _ | exact HBV.le)))).2 | exact (FC.out _ (HBV.alloc _)).2)).mono ?_; rintro e w6 ⟨rfl, h6⟩; have HX := hidI h6; clear h6)
        | (refine wl_bs1 rfl 28 tSn _ rfl L 238 408 (.agg z) undSs hz1 hL (by omega) (by omega) rfl ?_)
        | (go_at_call 23; refine (CT.out _ _ HX.out rfl).mono ?_; clear HX; rintro e w7 h7; obtain ⟨a7, c7, ys7, B7, rfl, h8⟩ := h7; have H8 := hidI h8; clear h8))
      go_ret
      exact ⟨a7, c7, ys7, B7, rfl, H8.out⟩
    exact AllReadyH.nil
end Go.Proofs.Ytebmgajijjhinaa

/- slices.Delete of errands; errands.add. -/
namespace Go.Proofs.Ytebmgajijjhinaa
open Go.RowKit Go.Maps
set_option linter.unusedVariables false
set_option linter.unusedSimpArgs false

/-- a row's beginning written anew -/
theorem own_sets0 {α : Type} (E : Lay α) {W : World} {N g n cap : Nat} {T : TypeId} {L : List α} (hn : n = L.length) (h : W.ownsRow N T E.k (.slice (some ⟨g, 0, none⟩) n cap) n (flG E L)) (L' : List α) (hl : L'.length ≤ L.length) :
    (W.setCells g 0 (flG E L')).ownsRow N T E.k (.slice (some ⟨g, 0, none⟩) n cap) n (flG E (L' ++ L.drop L'.length)) := by
  obtain ⟨h0, ⟨h1, h2⟩ | ⟨g', cap', cur, h1, h2, h3, h4, h5, h6, h7⟩⟩ := h
  · cases h1
  · simp only [Value.slice.injEq, Option.some.injEq, Addr.mk.injEq, true_and, and_true] at h1
    obtain ⟨rfl, rfl⟩ := h1
    refine ⟨by rw [flG_len, List.length_append, List.length_drop, hn, Nat.add_sub_cancel' hl], Or.inr ⟨g, cap, _, rfl, h2, heap_setCells _ h3, h4, h5, by rw [setA_size]; exact h6, ?_⟩⟩
    rw [setA_list, setL_take, h7, flG_app]
    have e : flG E L = flG E (L.take L'.length) ++ flG E (L.drop L'.length) := by rw [← flG_app, List.take_append_drop]
    rw [e, setL_zero _ _ _ (by rw [flG_len, flG_len, List.length_take, Nat.min_eq_left hl])]
theorem own_cellsG {α : Type} (E : Lay α) {W : World} {N g n cap : Nat} {T : TypeId} {L : List α} (hn : n = L.length) (h : W.ownsRow N T E.k (.slice (some ⟨g, 0, none⟩) n cap) n (flG E L)) {i : Nat} {v : Value} (hv : (flG E L)[i]? = some v) : W.cell? ⟨g, i, none⟩ = some v := by
  obtain ⟨h0, ⟨h1, h2⟩ | ⟨g', cap', cur, h1, h2, h3, h4, h5, h6, h7⟩⟩ := h
  · cases h1
  · simp only [Value.slice.injEq, Option.some.injEq, Addr.mk.injEq, true_and, and_true] at h1
    obtain ⟨rfl, rfl⟩ := h1
    have hi : i < n * E.k := by have := (List.getElem?_eq_some_iff.1 hv).1; rw [flG_len, ← hn] at this; exact this
    rw [Lib.cell_of_heap h3, ← Array.getElem?_toList]
    rw [← h7, List.getElem?_take, if_pos hi] at hv
    exact hv
theorem undErs : Try.prog.underlying 67 = some (.slice tEr) := Try.underlying67
theorem zeroEr : ∀ w, (zeroValue 98).run Try.prog w = .ok (.agg #[.int .i64 0, .int .i64 0, .int .i64 0, .int .i64 0, .bool false]) w := Try.zeroValue98
theorem infoEr3 : ∃ z, (Try.prog.info? tEr).map (fun i => (i.zero, i.size, i.bytes)) = some (some (.agg z), 5, 40) ∧ z.size = 5 := ⟨#[.int .i64 0, .int .i64 0, .int .i64 0, .int .i64 0, .bool false], by kernel_rfl, rfl⟩
theorem flG_drop {α : Type} (E : Lay α) (L : List α) (i j : Nat) : (flG E (L.drop i))[j]? = (flG E L)[i * E.k + j]? := by
  by_cases hi : i ≤ L.length
  · have e : flG E L = flG E (L.take i) ++ flG E (L.drop i) := by rw [← flG_app, List.take_append_drop]
    have hl : (flG E (L.take i)).length = i * E.k := by rw [flG_len, List.length_take, Nat.min_eq_left hi]
    rw [e, List.getElem?_append_right (by omega), hl, Nat.add_sub_cancel_left]
  · rw [List.drop_eq_nil_of_le (by omega), List.getElem?_eq_none (by simp [flG]), List.getElem?_eq_none (by rw [flG_len]; have : L.length * E.k ≤ i * E.k := Nat.mul_le_mul_right _ (by omega); omega)]
set_option maxRecDepth 8000 in
set_option maxHeartbeats 4000000 in
theorem DeleteE {N n : Nat} {v : Value} {l : List SO.Er} {W : World} (hn : n = l.length) (hown : W.ownsRow N tEr 5 v n (flG lyE l)) (h2 : 2 ≤ n) (hl : n ≤ 1000) :
    Calls Try.prog 62 #[v, .int .i64 0, .int .i64 1] W fun e w' => ∃ v', e = .returned v' ∧ w'.ownsRow N tEr 5 v' (n - 1) (flG lyE (l.drop 1)) ∧ W.grownBy w' v.ownBlock ∧ v'.ownBlock = v.ownBlock := by
  obtain ⟨g, c, rfl, hcl⟩ : ∃ g c, v = .slice (some ⟨g, 0, none⟩) n c ∧ n ≤ c := by
    obtain ⟨_, ⟨h1, h3⟩ | ⟨g', cap', cur, h1, _, _, h4, _⟩⟩ := hown
    · omega
    · exact ⟨g', cap', h1, h4⟩
  have hown' : W.drew.ownsRow N tEr 5 (.slice (some ⟨g, 0, none⟩) n c) n (flG lyE l) := ownsRow_bl hown ((Bl.refl W).drew)
  obtain ⟨news, hnews⟩ : ∃ news, news = flG lyE (l.drop 1) := ⟨_, rfl⟩
  have hnl : Hid (news.length = (n - 1) * 5) := by show _ = _; rw [hnews, flG_len, List.length_drop, hn]; rfl
  have hnc : Hid (∀ j u, news[j]? = some u → W.drew.cell? ((⟨g, 5, none⟩ : Addr).add j) = some u) := fun j u hu => by
    rw [hnews, flG_drop] at hu
    rw [Addr.add_lit]
    exact own_cellsG lyE hn hown' hu
  have hn1 : Hid (∀ u ∈ news, u.oneCell' = true) := by rw [hnews]; exact flG_one lyE _
  have hth : Hid (∀ j, j < news.length → (W.drew.cell? ⟨g, 0 + 0 * 5 + j, none⟩).isSome = true ∧ W.drew.frozen? ⟨g, 0 + 0 * 5 + j, none⟩ = false) := fun j hj => by
    rw [hnl.out] at hj
    have := owns_there lyE hown' (i := 0) (o := 0) (m := n * 5) (by show 0 * 5 + 0 + n * 5 ≤ n * 5; omega) j (by omega)
    simpa using this
  have hset := own_sets0 lyE hn hown' (l.drop 1) (by simp)
  rw [← hnews] at hset
  have hfin : Hid (∀ vs, ((W.drew.setCells g 0 news).setCells g ((n - 1) * 5) vs).ownsRow N tEr 5 (.slice (some ⟨g, 0, none⟩) (n - 1) c) (n - 1) (flG lyE (l.drop 1)) ∧ W.grownBy ((W.drew.setCells g 0 news).setCells g ((n - 1) * 5) vs) (some g)) := fun vs => by
    have h := own_cut lyE (n := n) (i := n - 1) (by simp only [List.length_append, List.length_drop]; omega) hset (by simp only [List.length_append, List.length_drop]; omega) vs
    rw [List.take_append_of_le_length (by rw [List.length_drop]; omega), List.take_of_length_le (by rw [List.length_drop]; omega)] at h
    exact ⟨h, ((grown_bl ((Bl.refl W).drew) _).trans (grown_setCells _ _ _ _)).trans (grown_setCells _ _ _ _)⟩
  obtain ⟨vs, hcl2⟩ := run_clearG lyE (L := l.drop 1 ++ l.drop (l.drop 1).length) (by simp only [List.length_append, List.length_drop]; omega) hset undErs zeroEr rfl (by simp [Value.cells, Value.oneCell']) (i := n - 1) (by omega) 0 (c - (n - 1))
  have hcl3 : ∀ ty, (Builtin.clear_ #[67] ty #[.slice (some ⟨g, (n - 1) * 5, none⟩) (n - (n - 1)) (c - (n - 1))]).run Try.prog (W.drew.setCells g 0 news) = .ok (.tuple #[]) ((W.drew.setCells g 0 news).setCells g ((n - 1) * 5) vs) := fun ty => hcl2
  obtain ⟨z5, hz5, hz6⟩ := infoEr3
  obtain ⟨i0, hi0, hz0, hz1, hz2⟩ := info_partsT hz5
  have g1 : (1 : Int) ≤ (n : Int) := by omega
  have g2 : c ≠ 1 := by omega
  clear hset hown hown' hn hnews
  go_enter Try.func62, Try.ntmps62
  go_wp2_with fail
  go_region_law (refine step_append_room rfl _ _ 67 rfl tEr i0 5 undErs hi0 hz1 g 0 0 c rfl ⟨g, 5, none⟩ (n - 1) (c - 1) news rfl hnl.out hnc.out hn1.out (by omega) hth.out ?_)
  (try simp only [Act.put, List.getElem_toArray, List.getElem_cons_succ, List.getElem_cons_zero, List.setIfInBounds_toArray, List.set_cons_zero, List.set_cons_succ])
  go_wp2_with fail
  go_ret
  exact ⟨_, rfl, (hfin.out vs).1, (hfin.out vs).2, rfl⟩
end Go.Proofs.Ytebmgajijjhinaa

/- Hear. -/
namespace Go.Proofs.Ytebmgajijjhinaa
open Go.RowKit Go.Maps
set_option linter.unusedVariables false
set_option linter.unusedSimpArgs false

theorem SX.drewN {w W U : World} {p N : Nat} {B : Nat → Prop} {s : SO.Sc} (h : SX w p B W N s U) (k : Nat) : SX w p B W N s (U.drewN k) := h.grow ((Bl.refl U).drewN k)
theorem SX.alloc {w W U : World} {p N : Nat} {B : Nat → Prop} {s : SO.Sc} (h : SX w p B W N s U) (ob : Obj) : SX w p B W N s (U.alloc ob) := h.grow ((Bl.refl U).alloc ob)
theorem of_sx {w W U : World} {p N : Nat} {B : Nat → Prop} {s : SO.Sc} (x : SX w p B W N s U) (k : Int) (hk : i64 k) : Calls Try.prog 20 #[.pointer (some ⟨p, 0, none⟩), .int .i64 k] U fun e w' => e = .returned (.agg (meV (SO.of s k))) ∧ SX w p B W N s w' := by
  obtain ⟨B', ⟨P', X⟩, O⟩ := id x
  refine (of_x X k hk).mono ?_
  rintro e w' ⟨rfl, hb⟩
  exact ⟨rfl, x.grow hb⟩
theorem hasLeft_sx {w W U : World} {p N : Nat} {B : Nat → Prop} {s : SO.Sc} (x : SX w p B W N s U) : Calls Try.prog 12 #[.pointer (some ⟨p, 0, none⟩)] U fun e w' => e = .returned (.bool (SO.left s)) ∧ SX w p B W N s w' := by
  obtain ⟨B', ⟨P', X⟩, O⟩ := id x
  refine (hasLeft_x X).mono ?_
  rintro e w' ⟨rfl, hb⟩
  exact ⟨rfl, x.grow hb⟩
theorem hearRumour_sx {w W U : World} {p N : Nat} {B : Nat → Prop} {s : SO.Sc} (x : SX w p B W N s U) (hN : N ≤ 100000000000) (m : K.Me) (h1 : i64 m.1) (h2 : i64 m.2.1) : Calls Try.prog 22 #[.pointer (some ⟨p, 0, none⟩), .agg (meV m)] U fun e w' => e = .returned (.tuple #[]) ∧ SX w p B W (N + 2) (SO.rum s m) w' := by
  obtain ⟨B', ⟨P', X⟩, O⟩ := x
  refine (hearRumour_x X hN m h1 h2).mono ?_
  rintro e w' ⟨rfl, hb⟩
  exact ⟨rfl, SX.trans O hb⟩
theorem hearAck_sx {w W U : World} {p N : Nat} {B : Nat → Prop} {s : SO.Sc} (x : SX w p B W N s U) (FL : List Value) (f : SO.Fr) (a : Option Addr) (c : Nat) (hf : FrC FL f a c) : Calls Try.prog 26 #[.pointer (some ⟨p, 0, none⟩), .agg FL.toArray] U fun e w' => Ans w p B W N (SO.ackE (SO.pHear s f) f).1 (SO.ackE (SO.pHear s f) f).2 e w' := by
  obtain ⟨B', ⟨P', X⟩, O⟩ := x
  exact (hearAck_x X FL f a c hf).mono fun e w' h => Ans.from O h
theorem tellS_me : ∀ (l : List SO.Fr) (s : SO.Sc), (SO.tellS s l).me = s.me
  | [], s => rfl
  | y :: r, s => by show (SO.tellS (SO.tell1 s y).1 r).me = _; rw [tellS_me]; rfl
theorem learn_me (s : SO.Sc) (m : K.Me) : (SO.learn s m).me = s.me := by unfold SO.learn; split <;> rfl
theorem rum_me (s : SO.Sc) (m : K.Me) : (SO.rum s m).me = s.me := by
  have h1 : (SO.rum1 s m).me = s.me := by unfold SO.rum1; split <;> first | exact learn_me s m | rfl
  have h2 : ∀ s' : SO.Sc, (SO.rum2 s' m).me = s'.me := fun s' => by unfold SO.rum2; split <;> rfl
  have h3 : ∀ s' : SO.Sc, (SO.rum3 s' m).me = s'.me := fun s' => by unfold SO.rum3; split <;> first | exact learn_me s' _ | rfl
  unfold SO.rum
  split
  · exact h1
  · rw [h3, h2, h1]
theorem rums_take {s : SO.Sc} {l : List K.Me} {k : Nat} {m : K.Me} (h : l[k]? = some m) : SO.rums s (l.take (k + 1)) = SO.rum (SO.rums s (l.take k)) m := by
  unfold SO.rums
  rw [List.take_add_one, h, Option.toList_some, List.foldl_append]; rfl
theorem SX.drew {w W U : World} {p N : Nat} {B : Nat → Prop} {s : SO.Sc} (h : SX w p B W N s U) : SX w p B W N s U.drew := h.grow ((Bl.refl U).drew)
theorem isOther_sx {w W U : World} {p N : Nat} {B : Nat → Prop} {s : SO.Sc} (x : SX w p B W N s U) (k : Int) : Calls Try.prog 19 #[.pointer (some ⟨p, 0, none⟩), .int .i64 k] U fun e w' => e = .returned (.bool (SO.other s k)) ∧ SX w p B W N s w' := by
  obtain ⟨B', ⟨P', X⟩, O⟩ := id x
  refine (isOther_x X k).mono ?_
  rintro e w' ⟨rfl, rfl⟩
  exact ⟨rfl, x⟩
theorem rums_me (s : SO.Sc) : ∀ l : List K.Me, (SO.rums s l).me = s.me := fun l => by
  unfold SO.rums
  induction l generalizing s with
  | nil => rfl
  | cons m r ih => rw [List.foldl_cons, ih, rum_me]
theorem heed_me (s : SO.Sc) (f : SO.Fr) : (SO.heed s f).me = s.me := by unfold SO.heed; split <;> rfl
/-- what stays through a frame's hearing -/
structure HeC (w : World) (p : Nat) (B : Nat → Prop) (W1 : World) (fb : Nat) (FL : List Value) (a : Option Addr) (c : Nat) (kind frm seq : Int) (rm : List K.Me) : Prop where
  kk : ∀ N s U, SX w p B W1 N s U → U.cell? ⟨fb, 0, none⟩ = some (.int .i64 kind) ∧ U.cell? ⟨fb, 1, none⟩ = some (.int .i64 frm) ∧ U.cell? ⟨fb, 2, none⟩ = some (.int .i64 seq) ∧ U.cell? ⟨fb, 236, none⟩ = some (.slice a rm.length c)
  box : ∀ N s U, SX w p B W1 N s U → U.heap[fb]? = some (.cells FL.toArray tFr (0, 0))
  rs : ∀ N s U, SX w p B W1 N s U → RS lyM U a rm
  me : ∀ N s U, SX w p B W1 N s U → U.cell? ⟨p, 10, none⟩ = some (.int .i64 s.me)
theorem heC {w W : World} {p N : Nat} {P : Pl} {B : Nat → Prop} {s : SO.Sc} (x : S0 w p P B N s W) (FL : List Value) (f : SO.Fr) (a : Option Addr) (c : Nat) (hf : FrC FL f a c) (hr : RS lyM W a f.rum) (ha : ∀ g off, a = some ⟨g, off, none⟩ → f.rum ≠ [] → ¬ B g) : HeC w p B (W.alloc (.cells FL.toArray tFr)) W.heap.size FL a c f.kind f.frm f.seq f.rum := by
  have hbx : (W.alloc (.cells FL.toArray tFr)).heap[W.heap.size]? = some (.cells FL.toArray tFr (0, 0)) := heap_alloc_new _ _
  have hnb : ¬ B W.heap.size := fun h => by have := (x.Bo _ h).2; omega
  have box : ∀ N s U, SX w p B (W.alloc (.cells FL.toArray tFr)) N s U → U.heap[W.heap.size]? = some (.cells FL.toArray tFr (0, 0)) := fun N s U h => by
    obtain ⟨B', _, o⟩ := h
    exact (o.block _ (lt_heap hbx) hnb).trans hbx
  refine ⟨fun N s U h => ?_, box, fun N s U h => ?_, fun N s U h => ?_⟩
  · have b := box N s U h
    exact ⟨cellL b hf.k0, cellL b hf.k1, cellL b hf.k2, cellL b hf.kr⟩
  · intro i m hm
    obtain ⟨b, off, hab, hlt, hrg⟩ := hr i m hm
    obtain ⟨B', _, o⟩ := h
    have e1 : U.heap[b]? = W.heap[b]? := by
      rw [o.block b (by have := ((Bl.refl W).alloc (.cells FL.toArray tFr)).size; omega) (ha b off hab (fun e => by rw [e] at hm; simp at hm))]
      exact ((Bl.refl W).alloc (.cells FL.toArray tFr)).block b hlt
    refine ⟨b, off, hab, by have := o.size; have := ((Bl.refl W).alloc (.cells FL.toArray tFr)).size; omega, fun j v hv => ?_⟩
    have := hrg j v hv
    simp only [World.cell?] at this ⊢
    rw [e1]; exact this
  · obtain ⟨B', ⟨P', X⟩, O⟩ := h
    exact X.c10
theorem Hear_nil (v : Value) (hv : ∃ C, v = .agg C) (W : World) : Calls Try.prog 7 #[.pointer none, v] W fun e w' => e = .returned (.slice none 0 0) ∧ Bl W w' := by
  obtain ⟨C, rfl⟩ := hv
  have HA : Hid (∀ o, Bl W (W.alloc o)) := fun o => (Bl.refl W).alloc o
  go_enter Try.func7, Try.ntmps7
  go_wp2_with fail
  go_ret
  exact ⟨rfl, HA.out _⟩
/-- behind the rumours: what Hear does -/
structure HeD (w : World) (p : Nat) (B : Nat → Prop) (W1 : World) (M : Nat) (t : SO.Sc) (L : List Value) (frm seq : Int) : Prop where
  left : ∀ U, SX w p B W1 M t U → Calls Try.prog 12 #[.pointer (some ⟨p, 0, none⟩)] U fun e w' => e = .returned (.bool (SO.left t)) ∧ SX w p B W1 M t w'
  ack : ∀ U, SX w p B W1 M t U → Calls Try.prog 24 #[.int .i64 frm, .int .i64 seq, .int .i64 t.me] U fun e w' => e = .returned (.agg L.toArray) ∧ SX w p B W1 M t w'
  tell : ∀ U V, SX w p B W1 M t U → V = U.alloc (.cells L.toArray tSn) → Calls Try.prog 23 #[.pointer (some ⟨p, 0, none⟩), .slice (some ⟨U.heap.size, 0, none⟩) 1 1] V fun e w' => Ans w p B W1 M (SO.tellS t [SO.ack frm seq t.me]) (SO.tellL t [SO.ack frm seq t.me]) e w'
  len : L.length = 238
theorem heD {w W1 : World} {p M : Nat} {B : Nat → Prop} {t : SO.Sc} {frm seq : Int} : HeD w p B W1 M t (snL frm 2 0 seq t.me zM nilV) frm seq :=
  ⟨fun U h => hasLeft_sx h, fun U h => ack_sx h _ _ _, fun U V h hV => tell1_sx h (SO.ack frm seq t.me) _ rfl V hV, snL_len zM_len⟩
set_option maxRecDepth 8000 in
set_option maxHeartbeats 8000000 in
theorem Hear_x {w W : World} {p : Nat} {P : Pl} {B : Nat → Prop} {N : Nat} {s : SO.Sc} (x : S0 w p P B N s W) (hN : N ≤ 10000000000) (FL : List Value) (f : SO.Fr) (a : Option Addr) (c : Nat) (hf : FrC FL f a c) (hfr : i64 f.frm) (hr : RS lyM W a f.rum) (ha : ∀ g off, a = some ⟨g, off, none⟩ → f.rum ≠ [] → ¬ B g) (hi : ∀ m ∈ f.rum, i64 m.1 ∧ i64 m.2.1) (hl : f.rum.length ≤ 1000)
    (CE : f.kind = 3 → ∀ M t U, M ≤ 20000000000 → SX w p B (W.alloc (.cells FL.toArray tFr)) M t U → Calls Try.prog 25 #[.pointer (some ⟨p, 0, none⟩), .agg FL.toArray] U fun e w' => Ans w p B (W.alloc (.cells FL.toArray tFr)) (M + 1) (SO.errand t f).1 (SO.errand t f).2 e w') :
    Calls Try.prog 7 #[.pointer (some ⟨p, 0, none⟩), .agg FL.toArray] W fun e w' => Ans w p B W (N + 2 * f.rum.length + 1) (SO.hear s f).1 (SO.hear s f).2 e w' := by
  have hb0 : Bl W (W.alloc (.cells FL.toArray tFr)) := (Bl.refl W).alloc _
  have HK := hidI (heC x FL f a c hf hr ha)
  have H0 : Hid (SX w p B (W.alloc (.cells FL.toArray tFr)) N s (W.alloc (.cells FL.toArray tFr))) := SX.refl ⟨P, x.grow hb0⟩
  have HFIN : Hid (∀ M t fs e w', M ≤ N + 2 * f.rum.length + 1 → Ans w p B (W.alloc (.cells FL.toArray tFr)) M t fs e w' → Ans w p B W (N + 2 * f.rum.length + 1) t fs e w') := fun M t fs e w' hM h => (Ans.from (OS.of_bl hb0) h).more hM
  have HCA : Hid (∀ M t U, SX w p B (W.alloc (.cells FL.toArray tFr)) M t U → Calls Try.prog 26 #[.pointer (some ⟨p, 0, none⟩), .agg FL.toArray] U fun e w' => Ans w p B (W.alloc (.cells FL.toArray tFr)) M (SO.ackE (SO.pHear t f) f).1 (SO.ackE (SO.pHear t f) f).2 e w') := fun M t U h => hearAck_sx h FL f a c hf
  have HCE := hidI CE
  obtain ⟨fs0, humF⟩ := undFr
  have hiF : (Try.prog.info? tFr).map (·.size) = some FL.toArray.size := by rw [List.size_toArray, hf.len]; exact infoFr
  have C1 : Hid (∀ U, SX w p B (W.alloc (.cells FL.toArray tFr)) N s U → Calls Try.prog 19 #[.pointer (some ⟨p, 0, none⟩), .int .i64 f.frm] U fun e w' => e = .returned (.bool (SO.other s f.frm)) ∧ SX w p B (W.alloc (.cells FL.toArray tFr)) N s w') := fun U h => isOther_sx h _
  have C2 : Hid (∀ U, SX w p B (W.alloc (.cells FL.toArray tFr)) N s U → Calls Try.prog 20 #[.pointer (some ⟨p, 0, none⟩), .int .i64 f.frm] U fun e w' => e = .returned (.agg (meV (SO.of s f.frm))) ∧ SX w p B (W.alloc (.cells FL.toArray tFr)) N s w') := fun U h => of_sx h _ hfr
  have C3 : Hid (∀ U, SX w p B (W.alloc (.cells FL.toArray tFr)) N s U → Calls Try.prog 21 #[.pointer (some ⟨p, 0, none⟩), .int .i64 f.frm] U fun e w' => e = .returned (.tuple #[]) ∧ SX w p B (W.alloc (.cells FL.toArray tFr)) N (SO.remind s f.frm) w') := fun U h => remind_sx h _ hfr
  have C4 : Hid (∀ M t m U, M ≤ 100000000000 → m ∈ f.rum → SX w p B (W.alloc (.cells FL.toArray tFr)) M t U → Calls Try.prog 22 #[.pointer (some ⟨p, 0, none⟩), .agg (meV m)] U fun e w' => e = .returned (.tuple #[]) ∧ SX w p B (W.alloc (.cells FL.toArray tFr)) (M + 2) (SO.rum t m) w') := fun M t m U hM hm h => hearRumour_sx h hM m (hi m hm).1 (hi m hm).2
  have HH : Hid (SO.hear s f = if SO.other s f.frm = true then (if SO.left (SO.rums (SO.heed s f) f.rum) = true then (SO.rums (SO.heed s f) f.rum, []) else SO.act (SO.rums (SO.heed s f) f.rum) f) else (s, [])) := rfl
  have HHE : Hid (SO.heed s f = if ((SO.of s f.frm).2.2 == 0) = true then s else SO.remind s f.frm) := rfl
  have HM : Hid ((SO.rums (SO.heed s f) f.rum).me = s.me) := by show _ = _; rw [rums_me, heed_me]
  have q1 : FL[1]? = some (.int .i64 f.frm) := hf.k1
  have q2 : FL.toArray[1]? = some (.int .i64 f.frm) := by simpa using hf.k1
  have q3 : (W.alloc (.cells FL.toArray tFr)).cell? ⟨W.heap.size, 1, none⟩ = some (.int .i64 f.frm) := (HK.out.kk N s _ H0.out).2.1
  clear hf hr ha hi CE x hfr hb0
  cases ho : SO.other s f.frm with
  | false =>
    rw [ho] at C1 HH
    have HE : Hid ((SO.hear s f).1 = s ∧ (SO.hear s f).2 = []) := by show _ ∧ _; rw [HH.out]; exact ⟨rfl, rfl⟩
    rw [HE.out.1, HE.out.2]
    clear HH HHE HE ho HM C2 C3 C4 HCE HCA
    go_enter Try.func7, Try.ntmps7
    go_wp2_with (go_at_call 19; refine (C1.out _ H0.out).mono ?_; clear C1 H0; rintro e w1 ⟨rfl, h1⟩; have H1 := hidI h1; clear h1)
    go_ret
    exact HFIN.out N s [] _ _ (by omega) (ans_none H1.out)
  | true =>
    rw [ho] at C1 HH
    obtain ⟨s1, hs1⟩ : ∃ s1, SO.heed s f = s1 := ⟨_, rfl⟩
    rw [hs1] at HH HHE HM
    obtain ⟨t, ht⟩ : ∃ t, SO.rums s1 f.rum = t := ⟨_, rfl⟩
    rw [ht] at HH HM
    have HT := hidI ht
    have D := hidI (heD (w := w) (W1 := W.alloc (.cells FL.toArray tFr)) (p := p) (M := N + 2 * f.rum.length) (B := B) (t := t) (frm := f.frm) (seq := f.seq))
    obtain ⟨L, hL⟩ : ∃ L, snL f.frm 2 0 f.seq t.me zM nilV = L := ⟨_, rfl⟩
    rw [hL] at D
    obtain ⟨hs, hhs⟩ : ∃ hs, SO.hear s f = hs := ⟨_, rfl⟩
    rw [hhs] at HH ⊢
    have HACT : Hid (SO.act t f = if f.kind = 1 then (SO.tellS t [SO.ack f.frm f.seq t.me], SO.tellL t [SO.ack f.frm f.seq t.me]) else if f.kind = 3 then SO.errand t f else if f.kind = 2 then SO.ackE (SO.pHear t f) f else (t, [])) := rfl
    have HH2 : Hid (hs = if SO.left t = true then (t, []) else SO.act t f) := by show _ = _; rw [HH.out]; rfl
    clear hL hhs HH ho hs1 ht
    obtain ⟨z, hz1, hz2⟩ := infoSn3
    have hLl : L.length = 238 := D.out.len
    obtain ⟨mo, hmo⟩ : ∃ mo, SO.of s f.frm = mo := ⟨_, rfl⟩
    rw [hmo] at C2 HHE
    clear hmo
    obtain ⟨n, i, st⟩ := mo
    unfold meV at C2
    simp only at C2 HHE
    have hfl : ∀ W, (Instr.field 54 (.agg #[.int .i64 n, .int .i64 i, .int .i64 st]) 2).run Try.prog W = .ok (.int .i64 st) W := fun W => by kernel_rfl
    obtain ⟨zz, hzz⟩ : ∃ zz, (st == 0) = zz := ⟨_, rfl⟩
    rw [hzz] at HHE
    generalize hkind : f.kind = kind at *
    generalize f.frm = frm at *
    generalize f.seq = seq at *
    generalize f.rum = rm at *
    go_enter Try.func7, Try.ntmps7
    go_wp2_with (go_at_call 19; refine (C1.out _ H0.out).mono ?_; clear C1 H0 q1 q2 q3; rintro e w1 ⟨rfl, h1⟩; have H1 := hidI h1; clear h1)
    generalize W.alloc (.cells FL.toArray tFr) = W1 at *
    generalize W.heap.size = fb at *
    have k1 := (HK.out.kk _ _ _ H1.out.drew).2.1
    go_region_with (go_at_call 20; refine (C2.out _ ?_).mono ?_; exact (H1.out.drew); rintro e w2 ⟨rfl, h2⟩; have H2 := hidI h2; clear h2)
    clear k1 H1 C2
    cases zz with
    | true =>
      have hzn : (st != 0) = false := by unfold bne; rw [hzz]; rfl
      have HS1 : Hid (s1 = s) := by show _ = _; rw [HHE.out]; rfl
      have H3 : Hid (SX w p B W1 N s1 w2) := by show SX _ _ _ _ _ _ _; rw [HS1.out]; exact H2.out
      clear C3 H2 HS1 HHE
      have k236 := (HK.out.kk _ _ _ H3.out).2.2.2
      go_wp2_with fail
      (try simp only [Act.put, List.getElem_toArray, List.getElem_cons_succ, List.getElem_cons_zero, List.setIfInBounds_toArray, List.set_cons_zero, List.set_cons_succ])
      go_loopw [6, 33] (fun _ u33 wr => ∃ k : Nat, k ≤ rm.length ∧ u33 = .int .i64 (k : Int) ∧ SX w p B W1 (N + 2 * k) (SO.rums s1 (rm.take k)) wr) (fun _ u33 _ => rm.length - (intOf u33).toNat)
      case atStart => exact ⟨0, by omega, rfl, H3.out⟩
      case round =>
       obtain ⟨k, hk, rfl, hx⟩ := hrel
       clear H3 k236
       by_cases hlt : k < rm.length
       · obtain ⟨m, hm⟩ : ∃ m, rm[k]? = some m := ⟨rm[k], List.getElem?_eq_getElem hlt⟩
         obtain ⟨b, off, rfl, hbb, hrg⟩ := HK.out.rs _ _ _ hx k m hm
         have HRG := hidI hrg
         have CR := hidI (fun U (hU : SX w p B W1 (N + 2 * k) (SO.rums s1 (rm.take k)) U) => C4.out _ _ m U (by omega) (List.mem_of_getElem? hm) hU)
         have HRT : Hid (SO.rums s1 (rm.take (k + 1)) = SO.rum (SO.rums s1 (rm.take k)) m) := rums_take hm
         have HGR : Hid (∀ U, Bl wr U → SX w p B W1 (N + 2 * k) (SO.rums s1 (rm.take k)) U) := fun U h => hx.grow h
         have HBX : Hid (∀ o, Bl wr (wr.alloc o)) := fun o => (Bl.refl wr).alloc o
         obtain ⟨mn, mi, ms⟩ := m
         unfold meV at CR
         simp only at CR
         have HRG2 : Hid (wr.rangeAt b (off + k * 3) [.int .i64 mn, .int .i64 mi, .int .i64 ms]) := HRG.out
         obtain ⟨fsm, humM⟩ := undMe
         clear hm hrg HRG hx C4 D HK HH2 HFIN HCE HCA
         go_wp2_with (first
           | (refine wpList_load_mid rfl 54 _ rfl b (off + k * 3) rfl [.int .i64 mn, .int .i64 mi, .int .i64 ms] _ HRG2.out humM rfl infoMe ?_; clear HRG2)
           | (go_at_call 22; refine (CR.out _ (HGR.out _ (HBX.out _))).mono ?_; clear CR; rintro e w5 ⟨rfl, h5⟩; have H5 := hidI h5; clear h5))
         go_roundw
         case rel => exact ⟨k + 1, by omega, by go_num, by rw [HRT.out]; exact H5.out⟩
         case measure => simp [intOf]; omega
       · obtain rfl : k = rm.length := by omega
         rw [List.take_length, HT.out] at hx
         have H6 := hidI hx
         clear hx C4
         cases hlf : SO.left t with
         | true =>
           have CLF := hidI (D.out.left wr H6.out)
           rw [hlf] at CLF HH2
           have HE : Hid (hs.1 = t ∧ hs.2 = []) := by show _ ∧ _; rw [HH2.out]; exact ⟨rfl, rfl⟩
           clear D HK HH2 HCE HCA H6
           go_wp2_with (go_at_call 12; refine (CLF.out).mono ?_; clear CLF; rintro e w6 ⟨rfl, h6⟩; have H6 := hidI h6; clear h6)
           go_ret
           rw [HE.out.1, HE.out.2]
           exact HFIN.out _ t [] _ _ (by omega) (ans_none H6.out)
         | false =>
           have CLF : Hid (Calls Try.prog 12 #[.pointer (some ⟨p, 0, none⟩)] wr fun e w' => e = .returned (.bool false) ∧ SX w p B W1 (N + 2 * rm.length) t w' ∧ w'.cell? ⟨fb, 0, none⟩ = some (.int .i64 kind)) := (D.out.left wr H6.out).mono fun e w' ⟨h1, h2⟩ => ⟨by rw [h1, hlf], h2, (HK.out.kk _ _ _ h2).1⟩
           rw [hlf] at HH2
           have HE : Hid (hs = SO.act t f) := by show _ = _; rw [HH2.out]; rfl
           clear HH2 H6
           go_upto_region 13 with (go_at_call 12; refine (CLF.out).mono ?_; clear CLF; rintro e w6 ⟨rfl, h6, k0⟩; have H6 := hidI h6; clear h6)
           rcases Classical.em (kind = 1) with hk1 | hk1
           · have HEA : Hid (SO.act t f = (SO.tellS t [SO.ack frm seq t.me], SO.tellL t [SO.ack frm seq t.me])) := by show _ = _; rw [HACT.out, if_pos hk1]
             have g1 : (kind == 1) = true := by rw [hk1]; rfl
             have HB : SX w p B W1 (N + 2 * rm.length) t w6 := H6.out
             have SK : Hid (∀ U, SX w p B W1 (N + 2 * rm.length) t U → U.cell? ⟨fb, 1, none⟩ = some (.int .i64 frm) ∧ U.cell? ⟨fb, 2, none⟩ = some (.int .i64 seq) ∧ U.cell? ⟨p, 10, none⟩ = some (.int .i64 t.me)) := fun U h => ⟨(HK.out.kk _ _ _ h).2.1, (HK.out.kk _ _ _ h).2.2.1, HK.out.me _ _ _ h⟩
             have SK2 : Hid (∀ e U, Ans w p B W1 (N + 2 * rm.length) (SO.tellS t [SO.ack frm seq t.me]) (SO.tellL t [SO.ack frm seq t.me]) e U → U.cell? ⟨fb, 1, none⟩ = some (.int .i64 frm) ∧ U.cell? ⟨fb, 2, none⟩ = some (.int .i64 seq) ∧ U.cell? ⟨p, 10, none⟩ = some (.int .i64 t.me)) := fun e U h => by
               obtain ⟨_, _, _, B', _, x', o', _⟩ := h
               have h' : SX w p B W1 (N + 2 * rm.length) (SO.tellS t [SO.ack frm seq t.me]) U := ⟨B', x', o'⟩
               exact ⟨(HK.out.kk _ _ _ h').2.1, (HK.out.kk _ _ _ h').2.2.1, by rw [← tellS_me [SO.ack frm seq t.me] t]; exact HK.out.me _ _ _ h'⟩
             have CK := hidI D.out.ack
             have CT := hidI D.out.tell
             have HFN := hidI (fun e w' => HFIN.out (N + 2 * rm.length) (SO.tellS t [SO.ack frm seq t.me]) (SO.tellL t [SO.ack frm seq t.me]) e w' (by omega))
             clear D HK HFIN HCE HCA H6 HACT HM HT
             generalize SO.tellS t [SO.ack frm seq t.me] = R1 at *
             generalize SO.tellL t [SO.ack frm seq t.me] = R2 at *
             generalize t.me = me at *
             go_wp2_with fail
             refine wp_region_noPanic ?_
             refine wp_region_held_drew (S := fun U => U.cell? ⟨fb, 1, none⟩ = some (.int .i64 frm) ∧ U.cell? ⟨fb, 2, none⟩ = some (.int .i64 seq) ∧ U.cell? ⟨p, 10, none⟩ = some (.int .i64 me)) (by kernel_rfl) ((by first | exact SK.out _ (HB.drewN 1) | exact SK2.out _ _ (HB.drewN 1))) (fun hHeld => ?_)
             refine wpAnyH_take (i := 0) rfl (by kernel_rfl) (by kernel_rfl) (by kernel_rfl) (fun _ _ _ h => h) (yi_move (by kernel_rfl) rfl rfl) (by assumption) ?_
             simp only [Act.put, List.getElem_toArray, List.getElem_cons_succ, List.getElem_cons_zero, List.setIfInBounds_toArray, List.set_cons_zero, List.set_cons_succ]
             refine wpAnyH_take (i := 1) (v := ?_) rfl (by kernel_rfl) (by kernel_rfl) (by kernel_rfl) (fun _ _ _ h => h) (Or.inl ⟨by kernel_rfl, ?_⟩) (by assumption) ?_
             rotate_left
             · (intro w hSw; (try dsimp only at hSw); go_simp; (try with_reducible rfl))
             simp only [Act.put, List.getElem_toArray, List.getElem_cons_succ, List.getElem_cons_zero, List.setIfInBounds_toArray, List.set_cons_zero, List.set_cons_succ]
             refine wpAnyH_take (i := 2) (v := ?_) rfl (by kernel_rfl) (by kernel_rfl) (by kernel_rfl) (fun _ _ _ h => h) (Or.inl ⟨by kernel_rfl, ?_⟩) (by assumption) ?_
             rotate_left
             · (intro w hSw; obtain ⟨e1, e2, e3⟩ := hSw; go_simp; (try with_reducible rfl))
             simp only [Act.put, List.getElem_toArray, List.getElem_cons_succ, List.getElem_cons_zero, List.setIfInBounds_toArray, List.set_cons_zero, List.set_cons_succ]
             refine wpAnyH_take (i := 3) (v := ?_) rfl (by kernel_rfl) (by kernel_rfl) (by kernel_rfl) (fun _ _ _ h => h) (Or.inl ⟨by kernel_rfl, ?_⟩) (by assumption) ?_
             rotate_left
             · (intro w hSw; (try dsimp only at hSw); go_simp; (try with_reducible rfl))
             simp only [Act.put, List.getElem_toArray, List.getElem_cons_succ, List.getElem_cons_zero, List.setIfInBounds_toArray, List.set_cons_zero, List.set_cons_succ]
             refine wpAnyH_take (i := 4) (v := ?_) rfl (by kernel_rfl) (by kernel_rfl) (by kernel_rfl) (fun _ _ _ h => h) (Or.inl ⟨by kernel_rfl, ?_⟩) (by assumption) ?_
             rotate_left
             · (intro w hSw; obtain ⟨e1, e2, e3⟩ := hSw; go_simp; (try with_reducible rfl))
             simp only [Act.put, List.getElem_toArray, List.getElem_cons_succ, List.getElem_cons_zero, List.setIfInBounds_toArray, List.set_cons_zero, List.set_cons_succ]
             refine wpAnyH_take (i := 5) rfl (by kernel_rfl) (by kernel_rfl) (by kernel_rfl) (fun _ _ _ h => h) (yi_move (by kernel_rfl) rfl rfl) (by assumption) ?_
             simp only [Act.put, List.getElem_toArray, List.getElem_cons_succ, List.getElem_cons_zero, List.setIfInBounds_toArray, List.set_cons_zero, List.set_cons_succ]
             refine wpAnyH_take (i := 6) (v := ?_) rfl (by kernel_rfl) (by kernel_rfl) (by kernel_rfl) (fun _ _ _ h => h) (Or.inl ⟨by kernel_rfl, ?_⟩) (by assumption) ?_
             rotate_left
             · (intro w hSw; (try dsimp only at hSw); go_simp; (try with_reducible rfl))
             simp only [Act.put, List.getElem_toArray, List.getElem_cons_succ, List.getElem_cons_zero, List.setIfInBounds_toArray, List.set_cons_zero, List.set_cons_succ]
             refine wpAnyH_take (i := 7) (v := ?_) rfl (by kernel_rfl) (by kernel_rfl) (by kernel_rfl) (fun _ _ _ h => h) (Or.inl ⟨by kernel_rfl, ?_⟩) (by assumption) ?_
             rotate_left
             · (intro w hSw; (try dsimp only at hSw); go_simp; (try with_reducible rfl))
             simp only [Act.put, List.getElem_toArray, List.getElem_cons_succ, List.getElem_cons_zero, List.setIfInBounds_toArray, List.set_cons_zero, List.set_cons_succ]
             refine wpAnyH_take (i := 8) (v := ?_) rfl (by kernel_rfl) (by kernel_rfl) (by kernel_rfl) (fun _ _ _ h => h) (Or.inl ⟨by kernel_rfl, ?_⟩) (by assumption) ?_
             rotate_left
             · (intro w hSw; obtain ⟨e1, e2, e3⟩ := hSw; go_simp; (try with_reducible rfl))
             simp only [Act.put, List.getElem_toArray, List.getElem_cons_succ, List.getElem_cons_zero, List.setIfInBounds_toArray, List.set_cons_zero, List.set_cons_succ]
             refine wpAnyH_ready (rs := [9]) (by kernel_rfl) (by simp) ?_
             refine AllReadyH.cons (o := _) rfl (fun K hK => ?_) AllReadyH.nil
             go_simp
             go_at_call 24; refine (CK.out _ (HB.drewN 1)).mono ?_; rintro e V10 ⟨rfl, HB10⟩; have HBK := HB10
             refine hK.out _ _ ((by first | exact SK.out _ HB10 | exact SK2.out _ _ HB10)) (fun hHeld => ?_)
             clear hK K
             (try simp only [Act.put, List.getElem_toArray, List.getElem_cons_succ, List.getElem_cons_zero, List.setIfInBounds_toArray, List.set_cons_zero, List.set_cons_succ])
             refine wpAnyH_ready (rs := [10]) (by kernel_rfl) (by simp) ?_
             refine AllReadyH.cons (o := _) rfl (fun K hK => ?_) AllReadyH.nil
             refine stepo_bs1 rfl 28 tSn _ rfl L 238 408 (.agg z) undSs hz1 hLl (by omega) (by omega) (by rfl) (hK.out _ _ ((by first | exact SK.out _ ((HB10).alloc _) | exact SK2.out _ _ ((HB10).alloc _))) (fun hHeld => ?_))
             clear hK K
             (try simp only [Act.put, List.getElem_toArray, List.getElem_cons_succ, List.getElem_cons_zero, List.setIfInBounds_toArray, List.set_cons_zero, List.set_cons_succ])
             refine wpAnyH_ready (rs := [11]) (by kernel_rfl) (by simp) ?_
             refine AllReadyH.cons (o := _) rfl (fun K hK => ?_) AllReadyH.nil
             go_simp
             go_at_call 23; refine (CT.out _ _ HBK rfl).mono ?_; rintro e V12 HB12; obtain ⟨a7, c7, ys7, B7, he, h8⟩ := id HB12; subst he; clear h8
             refine hK.out _ _ ((by first | exact SK.out _ HB12 | exact SK2.out _ _ HB12)) (fun hHeld => ?_)
             clear hK K
             (try simp only [Act.put, List.getElem_toArray, List.getElem_cons_succ, List.getElem_cons_zero, List.setIfInBounds_toArray, List.set_cons_zero, List.set_cons_succ])
             refine wpAnyH_take (i := 12) rfl (by kernel_rfl) (by kernel_rfl) (by kernel_rfl) (fun _ _ _ h => h) (yi_assign (by kernel_rfl) rfl rfl) (by assumption) ?_
             simp only [Act.put, List.getElem_toArray, List.getElem_cons_succ, List.getElem_cons_zero, List.setIfInBounds_toArray, List.set_cons_zero, List.set_cons_succ]
             refine wpAnyH_done (by kernel_rfl) ?_ _
             refine NoPanic.normal ?_
             have HBE := hidI HB12
             go_wp2_with fail
             go_ret
             rw [HE.out, HEA.out]
             exact HFN.out _ _ HBE.out
           · have g1 : (kind == 1) = false := by simpa using hk1
             rcases Classical.em (kind = 3) with hk3 | hk3
             · have HEA : Hid (SO.act t f = SO.errand t f) := by show _ = _; rw [HACT.out, if_neg hk1, if_pos hk3]
               have g3 : (kind == 3) = true := by rw [hk3]; rfl
               have C := hidI (HCE.out hk3 (N + 2 * rm.length) t w6 (by omega) H6.out)
               have HBX := hidI (HK.out.box _ _ _ H6.out)
               have HFN := hidI (fun e w' => HFIN.out (N + 2 * rm.length + 1) (SO.errand t f).1 (SO.errand t f).2 e w' (by omega))
               clear D HK HFIN HCE HCA H6 HACT HM HT
               go_wp2_with (first
                 | (refine wpList_load_row rfl tFr _ rfl fb rfl tFr FL.toArray (0, 0) _ HBX.out humF rfl hiF ?_; clear HBX)
                 | (go_at_call 25; refine (C.out).mono ?_; clear C; rintro e w7 h7; obtain ⟨a7, c7, ys7, B7, he, h8⟩ := id h7; subst he; clear h8; have H7 := hidI h7; clear h7))
               go_ret
               rw [HE.out, HEA.out]
               exact HFN.out _ _ H7.out
             · have g3 : (kind == 3) = false := by simpa using hk3
               rcases Classical.em (kind = 2) with hk2 | hk2
               · have HEA : Hid (SO.act t f = SO.ackE (SO.pHear t f) f) := by show _ = _; rw [HACT.out, if_neg hk1, if_neg hk3, if_pos hk2]
                 have g2 : (kind == 2) = true := by rw [hk2]; rfl
                 have C := hidI (HCA.out (N + 2 * rm.length) t w6 H6.out)
                 have HBX := hidI (HK.out.box _ _ _ H6.out)
                 have HFN := hidI (fun e w' => HFIN.out (N + 2 * rm.length) (SO.ackE (SO.pHear t f) f).1 (SO.ackE (SO.pHear t f) f).2 e w' (by omega))
                 clear D HK HFIN HCE HCA H6 HACT HM HT
                 go_wp2_with (first
                   | (refine wpList_load_row rfl tFr _ rfl fb rfl tFr FL.toArray (0, 0) _ HBX.out humF rfl hiF ?_; clear HBX)
                   | (go_at_call 26; refine (C.out).mono ?_; clear C; rintro e w7 h7; obtain ⟨a7, c7, ys7, B7, he, h8⟩ := id h7; subst he; clear h8; have H7 := hidI h7; clear h7))
                 go_ret
                 rw [HE.out, HEA.out]
                 exact HFN.out _ _ H7.out
               · have HEA : Hid (SO.act t f = (t, [])) := by show _ = _; rw [HACT.out, if_neg hk1, if_neg hk3, if_neg hk2]
                 have g2 : (kind == 2) = false := by simpa using hk2
                 have HFN := hidI (HFIN.out (N + 2 * rm.length) t [] _ _ (by omega) (ans_none H6.out))
                 clear D HK HFIN HCE HCA H6 HACT HM HT
                 go_wp2_with fail
                 go_ret
                 rw [HE.out, HEA.out]
                 exact HFN.out
    | false =>
      have hzn : (st != 0) = true := by unfold bne; rw [hzz]; rfl
      have HS1 : Hid (s1 = SO.remind s frm) := by show _ = _; rw [HHE.out]; rfl
      have k1 := (HK.out.kk _ _ _ H2.out.drew).2.1
      go_wp2_with fail
      go_region_with (go_at_call 21; refine (C3.out _ ?_).mono ?_; exact (H2.out.drew); rintro e w3 ⟨rfl, h3⟩; have h3' := h3; rw [← HS1.out] at h3'; have H3 := hidI h3'; clear h3 h3')
      clear k1 C3 H2 HS1 HHE
      have k236 := (HK.out.kk _ _ _ H3.out).2.2.2
      go_wp2_with fail
      (try simp only [Act.put, List.getElem_toArray, List.getElem_cons_succ, List.getElem_cons_zero, List.setIfInBounds_toArray, List.set_cons_zero, List.set_cons_succ])
      go_loopw [6, 33] (fun _ u33 wr => ∃ k : Nat, k ≤ rm.length ∧ u33 = .int .i64 (k : Int) ∧ SX w p B W1 (N + 2 * k) (SO.rums s1 (rm.take k)) wr) (fun _ u33 _ => rm.length - (intOf u33).toNat)
      case atStart => exact ⟨0, by omega, rfl, H3.out⟩
      case round =>
       obtain ⟨k, hk, rfl, hx⟩ := hrel
       clear H3 k236
       by_cases hlt : k < rm.length
       · obtain ⟨m, hm⟩ : ∃ m, rm[k]? = some m := ⟨rm[k], List.getElem?_eq_getElem hlt⟩
         obtain ⟨b, off, rfl, hbb, hrg⟩ := HK.out.rs _ _ _ hx k m hm
         have HRG := hidI hrg
         have CR := hidI (fun U (hU : SX w p B W1 (N + 2 * k) (SO.rums s1 (rm.take k)) U) => C4.out _ _ m U (by omega) (List.mem_of_getElem? hm) hU)
         have HRT : Hid (SO.rums s1 (rm.take (k + 1)) = SO.rum (SO.rums s1 (rm.take k)) m) := rums_take hm
         have HGR : Hid (∀ U, Bl wr U → SX w p B W1 (N + 2 * k) (SO.rums s1 (rm.take k)) U) := fun U h => hx.grow h
         have HBX : Hid (∀ o, Bl wr (wr.alloc o)) := fun o => (Bl.refl wr).alloc o
         obtain ⟨mn, mi, ms⟩ := m
         unfold meV at CR
         simp only at CR
         have HRG2 : Hid (wr.rangeAt b (off + k * 3) [.int .i64 mn, .int .i64 mi, .int .i64 ms]) := HRG.out
         obtain ⟨fsm, humM⟩ := undMe
         clear hm hrg HRG hx C4 D HK HH2 HFIN HCE HCA
         go_wp2_with (first
           | (refine wpList_load_mid rfl 54 _ rfl b (off + k * 3) rfl [.int .i64 mn, .int .i64 mi, .int .i64 ms] _ HRG2.out humM rfl infoMe ?_; clear HRG2)
           | (go_at_call 22; refine (CR.out _ (HGR.out _ (HBX.out _))).mono ?_; clear CR; rintro e w5 ⟨rfl, h5⟩; have H5 := hidI h5; clear h5))
         go_roundw
         case rel => exact ⟨k + 1, by omega, by go_num, by rw [HRT.out]; exact H5.out⟩
         case measure => simp [intOf]; omega
       · obtain rfl : k = rm.length := by omega
         rw [List.take_length, HT.out] at hx
         have H6 := hidI hx
         clear hx C4
         cases hlf : SO.left t with
         | true =>
           have CLF := hidI (D.out.left wr H6.out)
           rw [hlf] at CLF HH2
           have HE : Hid (hs.1 = t ∧ hs.2 = []) := by show _ ∧ _; rw [HH2.out]; exact ⟨rfl, rfl⟩
           clear D HK HH2 HCE HCA H6
           go_wp2_with (go_at_call 12; refine (CLF.out).mono ?_; clear CLF; rintro e w6 ⟨rfl, h6⟩; have H6 := hidI h6; clear h6)
           go_ret
           rw [HE.out.1, HE.out.2]
           exact HFIN.out _ t [] _ _ (by omega) (ans_none H6.out)
         | false =>
           have CLF : Hid (Calls Try.prog 12 #[.pointer (some ⟨p, 0, none⟩)] wr fun e w' => e = .returned (.bool false) ∧ SX w p B W1 (N + 2 * rm.length) t w' ∧ w'.cell? ⟨fb, 0, none⟩ = some (.int .i64 kind)) := (D.out.left wr H6.out).mono fun e w' ⟨h1, h2⟩ => ⟨by rw [h1, hlf], h2, (HK.out.kk _ _ _ h2).1⟩
           rw [hlf] at HH2
           have HE : Hid (hs = SO.act t f) := by show _ = _; rw [HH2.out]; rfl
           clear HH2 H6
           go_upto_region 13 with (go_at_call 12; refine (CLF.out).mono ?_; clear CLF; rintro e w6 ⟨rfl, h6, k0⟩; have H6 := hidI h6; clear h6)
           rcases Classical.em (kind = 1) with hk1 | hk1
           · have HEA : Hid (SO.act t f = (SO.tellS t [SO.ack frm seq t.me], SO.tellL t [SO.ack frm seq t.me])) := by show _ = _; rw [HACT.out, if_pos hk1]
             have g1 : (kind == 1) = true := by rw [hk1]; rfl
             have HB : SX w p B W1 (N + 2 * rm.length) t w6 := H6.out
             have SK : Hid (∀ U, SX w p B W1 (N + 2 * rm.length) t U → U.cell? ⟨fb, 1, none⟩ = some (.int .i64 frm) ∧ U.cell? ⟨fb, 2, none⟩ = some (.int .i64 seq) ∧ U.cell? ⟨p, 10, none⟩ = some (.int .i64 t.me)) := fun U h => ⟨(HK.out.kk _ _ _ h).2.1, (HK.out.kk _ _ _ h).2.2.1, HK.out.me _ _ _ h⟩
             have SK2 : Hid (∀ e U, Ans w p B W1 (N + 2 * rm.length) (SO.tellS t [SO.ack frm seq t.me]) (SO.tellL t [SO.ack frm seq t.me]) e U → U.cell? ⟨fb, 1, none⟩ = some (.int .i64 frm) ∧ U.cell? ⟨fb, 2, none⟩ = some (.int .i64 seq) ∧ U.cell? ⟨p, 10, none⟩ = some (.int .i64 t.me)) := fun e U h => by
               obtain ⟨_, _, _, B', _, x', o', _⟩ := h
               have h' : SX w p B W1 (N + 2 * rm.length) (SO.tellS t [SO.ack frm seq t.me]) U := ⟨B', x', o'⟩
               exact ⟨(HK.out.kk _ _ _ h').2.1, (HK.out.kk _ _ _ h').2.2.1, by rw [← tellS_me [SO.ack frm seq t.me] t]; exact HK.out.me _ _ _ h'⟩
             have CK := hidI D.out.ack
             have CT := hidI D.out.tell
             have HFN := hidI (fun e w' => HFIN.out (N + 2 * rm.length) (SO.tellS t [SO.ack frm seq t.me]) (SO.tellL t [SO.ack frm seq t.me]) e w' (by omega))
             clear D HK HFIN HCE HCA H6 HACT HM HT
             generalize SO.tellS t [SO.ack frm seq t.me] = R1 at *
             generalize SO.tellL t [SO.ack frm seq t.me] = R2 at *
             generalize t.me = me at *
             go_wp2_with fail
             refine wp_region_noPanic ?_
             refine wp_region_held_drew (S := fun U => U.cell? ⟨fb, 1, none⟩ = some (.int .i64 frm) ∧ U.cell? ⟨fb, 2, none⟩ = some (.int .i64 seq) ∧ U.cell? ⟨p, 10, none⟩ = some (.int .i64 me)) (by kernel_rfl) ((by first | exact SK.out _ (HB.drewN 1) | exact SK2.out _ _ (HB.drewN 1))) (fun hHeld => ?_)
             refine wpAnyH_take (i := 0) rfl (by kernel_rfl) (by kernel_rfl) (by kernel_rfl) (fun _ _ _ h => h) (yi_move (by kernel_rfl) rfl rfl) (by assumption) ?_
             simp only [Act.put, List.getElem_toArray, List.getElem_cons_succ, List.getElem_cons_zero, List.setIfInBounds_toArray, List.set_cons_zero, List.set_cons_succ]
             refine wpAnyH_take (i := 1) (v := ?_) rfl (by kernel_rfl) (by kernel_rfl) (by kernel_rfl) (fun _ _ _ h => h) (Or.inl ⟨by kernel_rfl, ?_⟩) (by assumption) ?_
             rotate_left
             · (intro w hSw; (try dsimp only at hSw); go_simp; (try with_reducible rfl))
             simp only [Act.put, List.getElem_toArray, List.getElem_cons_succ, List.getElem_cons_zero, List.setIfInBounds_toArray, List.set_cons_zero, List.set_cons_succ]
             refine wpAnyH_take (i := 2) (v := ?_) rfl (by kernel_rfl) (by kernel_rfl) (by kernel_rfl) (fun _ _ _ h => h) (Or.inl ⟨by kernel_rfl, ?_⟩) (by assumption) ?_
             rotate_left
             · (intro w hSw; obtain ⟨e1, e2, e3⟩ := hSw; go_simp; (try with_reducible rfl))
             simp only [Act.put, List.getElem_toArray, List.getElem_cons_succ, List.getElem_cons_zero, List.setIfInBounds_toArray, List.set_cons_zero, List.set_cons_succ]
             refine wpAnyH_take (i := 3) (v := ?_) rfl (by kernel_rfl) (by kernel_rfl) (by kernel_rfl) (fun _ _ _ h => h) (Or.inl ⟨by kernel_rfl, ?_⟩) (by assumption) ?_
             rotate_left
             · (intro w hSw; (try dsimp only at hSw); go_simp; (try with_reducible rfl))
             simp only [Act.put, List.getElem_toArray, List.getElem_cons_succ, List.getElem_cons_zero, List.setIfInBounds_toArray, List.set_cons_zero, List.set_cons_succ]
             refine wpAnyH_take (i := 4) (v := ?_) rfl (by kernel_rfl) (by kernel_rfl) (by kernel_rfl) (fun _ _ _ h => h) (Or.inl ⟨by kernel_rfl, ?_⟩) (by assumption) ?_
             rotate_left
             · (intro w hSw; obtain ⟨e1, e2, e3⟩ := hSw; go_simp; (try with_reducible rfl))
             simp only [Act.put, List.getElem_toArray, List.getElem_cons_succ, List.getElem_cons_zero, List.setIfInBounds_toArray, List.set_cons_zero, List.set_cons_succ]
             refine wpAnyH_take (i := 5) rfl (by kernel_rfl) (by kernel_rfl) (by kernel_rfl) (fun _ _ _ h => h) (yi_move (by kernel_rfl) rfl rfl) (by assumption) ?_
             simp only [Act.put, List.getElem_toArray, List.getElem_cons_succ, List.getElem_cons_zero, List.setIfInBounds_toArray, List.set_cons_zero, List.set_cons_succ]
             refine wpAnyH_take (i := 6) (v := ?_) rfl (by kernel_rfl) (by kernel_rfl) (by kernel_rfl) (fun _ _ _ h => h) (Or.inl ⟨by kernel_rfl, ?_⟩) (by assumption) ?_
             rotate_left
             · (intro w hSw; (try dsimp only at hSw); go_simp; (try with_reducible rfl))
             simp only [Act.put, List.getElem_toArray, List.getElem_cons_succ, List.getElem_cons_zero, List.setIfInBounds_toArray, List.set_cons_zero, List.set_cons_succ]
             refine wpAnyH_take (i := 7) (v := ?_) rfl (by kernel_rfl) (by kernel_rfl) (by kernel_rfl) (fun _ _ _ h => h) (Or.inl ⟨by kernel_rfl, ?_⟩) (by assumption) ?_
             rotate_left
             · (intro w hSw; (try dsimp only at hSw); go_simp; (try with_reducible rfl))
             simp only [Act.put, List.getElem_toArray, List.getElem_cons_succ, List.getElem_cons_zero, List.setIfInBounds_toArray, List.set_cons_zero, List.set_cons_succ]
             refine wpAnyH_take (i := 8) (v := ?_) rfl (by kernel_rfl) (by kernel_rfl) (by kernel_rfl) (fun _ _ _ h => h) (Or.inl ⟨by kernel_rfl, ?_⟩) (by assumption) ?_
             rotate_left
             · (intro w hSw; obtain ⟨e1, e2, e3⟩ := hSw; go_simp; (try with_reducible rfl))
             simp only [Act.put, List.getElem_toArray, List.getElem_cons_succ, List.getElem_cons_zero, List.setIfInBounds_toArray, List.set_cons_zero, List.set_cons_succ]
             refine wpAnyH_ready (rs := [9]) (by kernel_rfl) (by simp) ?_
             refine AllReadyH.cons (o := _) rfl (fun K hK => ?_) AllReadyH.nil
             go_simp
             go_at_call 24; refine (CK.out _ (HB.drewN 1)).mono ?_; rintro e V10 ⟨rfl, HB10⟩; have HBK := HB10
             refine hK.out _ _ ((by first | exact SK.out _ HB10 | exact SK2.out _ _ HB10)) (fun hHeld => ?_)
             clear hK K
             (try simp only [Act.put, List.getElem_toArray, List.getElem_cons_succ, List.getElem_cons_zero, List.setIfInBounds_toArray, List.set_cons_zero, List.set_cons_succ])
             refine wpAnyH_ready (rs := [10]) (by kernel_rfl) (by simp) ?_
             refine AllReadyH.cons (o := _) rfl (fun K hK => ?_) AllReadyH.nil
             refine stepo_bs1 rfl 28 tSn _ rfl L 238 408 (.agg z) undSs hz1 hLl (by omega) (by omega) (by rfl) (hK.out _ _ ((by first | exact SK.out _ ((HB10).alloc _) | exact SK2.out _ _ ((HB10).alloc _))) (fun hHeld => ?_))
             clear hK K
             (try simp only [Act.put, List.getElem_toArray, List.getElem_cons_succ, List.getElem_cons_zero, List.setIfInBounds_toArray, List.set_cons_zero, List.set_cons_succ])
             refine wpAnyH_ready (rs := [11]) (by kernel_rfl) (by simp) ?_
             refine AllReadyH.cons (o := _) rfl (fun K hK => ?_) AllReadyH.nil
             go_simp
             go_at_call 23; refine (CT.out _ _ HBK rfl).mono ?_; rintro e V12 HB12; obtain ⟨a7, c7, ys7, B7, he, h8⟩ := id HB12; subst he; clear h8
             refine hK.out _ _ ((by first | exact SK.out _ HB12 | exact SK2.out _ _ HB12)) (fun hHeld => ?_)
             clear hK K
             (try simp only [Act.put, List.getElem_toArray, List.getElem_cons_succ, List.getElem_cons_zero, List.setIfInBounds_toArray, List.set_cons_zero, List.set_cons_succ])
             refine wpAnyH_take (i := 12) rfl (by kernel_rfl) (by kernel_rfl) (by kernel_rfl) (fun _ _ _ h => h) (yi_assign (by kernel_rfl) rfl rfl) (by assumption) ?_
             simp only [Act.put, List.getElem_toArray, List.getElem_cons_succ, List.getElem_cons_zero, List.setIfInBounds_toArray, List.set_cons_zero, List.set_cons_succ]
             refine wpAnyH_done (by kernel_rfl) ?_ _
             refine NoPanic.normal ?_
             have HBE := hidI HB12
             go_wp2_with fail
             go_ret
             rw [HE.out, HEA.out]
             exact HFN.out _ _ HBE.out
           · have g1 : (kind == 1) = false := by simpa using hk1
             rcases Classical.em (kind = 3) with hk3 | hk3
             · have HEA : Hid (SO.act t f = SO.errand t f) := by show _ = _; rw [HACT.out, if_neg hk1, if_pos hk3]
               have g3 : (kind == 3) = true := by rw [hk3]; rfl
               have C := hidI (HCE.out hk3 (N + 2 * rm.length) t w6 (by omega) H6.out)
               have HBX := hidI (HK.out.box _ _ _ H6.out)
               have HFN := hidI (fun e w' => HFIN.out (N + 2 * rm.length + 1) (SO.errand t f).1 (SO.errand t f).2 e w' (by omega))
               clear D HK HFIN HCE HCA H6 HACT HM HT
               go_wp2_with (first
                 | (refine wpList_load_row rfl tFr _ rfl fb rfl tFr FL.toArray (0, 0) _ HBX.out humF rfl hiF ?_; clear HBX)
                 | (go_at_call 25; refine (C.out).mono ?_; clear C; rintro e w7 h7; obtain ⟨a7, c7, ys7, B7, he, h8⟩ := id h7; subst he; clear h8; have H7 := hidI h7; clear h7))
               go_ret
               rw [HE.out, HEA.out]
               exact HFN.out _ _ H7.out
             · have g3 : (kind == 3) = false := by simpa using hk3
               rcases Classical.em (kind = 2) with hk2 | hk2
               · have HEA : Hid (SO.act t f = SO.ackE (SO.pHear t f) f) := by show _ = _; rw [HACT.out, if_neg hk1, if_neg hk3, if_pos hk2]
                 have g2 : (kind == 2) = true := by rw [hk2]; rfl
                 have C := hidI (HCA.out (N + 2 * rm.length) t w6 H6.out)
                 have HBX := hidI (HK.out.box _ _ _ H6.out)
                 have HFN := hidI (fun e w' => HFIN.out (N + 2 * rm.length) (SO.ackE (SO.pHear t f) f).1 (SO.ackE (SO.pHear t f) f).2 e w' (by omega))
                 clear D HK HFIN HCE HCA H6 HACT HM HT
                 go_wp2_with (first
                   | (refine wpList_load_row rfl tFr _ rfl fb rfl tFr FL.toArray (0, 0) _ HBX.out humF rfl hiF ?_; clear HBX)
                   | (go_at_call 26; refine (C.out).mono ?_; clear C; rintro e w7 h7; obtain ⟨a7, c7, ys7, B7, he, h8⟩ := id h7; subst he; clear h8; have H7 := hidI h7; clear h7))
                 go_ret
                 rw [HE.out, HEA.out]
                 exact HFN.out _ _ H7.out
               · have HEA : Hid (SO.act t f = (t, [])) := by show _ = _; rw [HACT.out, if_neg hk1, if_neg hk3, if_neg hk2]
                 have g2 : (kind == 2) = false := by simpa using hk2
                 have HFN := hidI (HFIN.out (N + 2 * rm.length) t [] _ _ (by omega) (ans_none H6.out))
                 clear D HK HFIN HCE HCA H6 HACT HM HT
                 go_wp2_with fail
                 go_ret
                 rw [HE.out, HEA.out]
                 exact HFN.out
end Go.Proofs.Ytebmgajijjhinaa

/- A law's scout: what it has in hand beside it. -/
namespace Go.Proofs.Ytebmgajijjhinaa
open Go.RowKit Go.Maps
set_option linter.unusedVariables false
set_option linter.unusedSimpArgs false

/-- the same over an earlier world -/
theorem S0.base {w0 w W : World} {p : Nat} {P : Pl} {B : Nat → Prop} {N : Nat} {s : SO.Sc} (x : S0 w p P B N s W) (h : Bl w0 w) : S0 w0 p P B N s W :=
  ⟨x.row, ⟨x.vt.row, x.vt.mp, Nat.le_trans h.size x.vt.q0, Nat.le_trans h.size x.vt.b0, h.step x.vt.bl⟩, ⟨x.hl.row, owns_base x.hl.own h.size, Nat.le_trans h.size x.hl.b0, h.step x.hl.bl, x.hl.rep, x.hl.ok, x.hl.t1, x.hl.t2⟩, x.ln, x.hp, owns_base x.er h.size, x.Bp, x.Bq, x.Bb, x.Bh, x.Bv, x.Bn, x.Ba, x.Be, fun k hk => ⟨Nat.le_trans h.size (x.Bo k hk).1, (x.Bo k hk).2⟩, x.num, x.lcp⟩
/-- K holds of U and of every world in which only blocks of B are others -/
def Kp (B : Nat → Prop) (U : World) (K : World → Prop) : Prop := ∀ U' : World, U.heap.size ≤ U'.heap.size → (∀ k, k < U.heap.size → ¬ B k → U'.heap[k]? = U.heap[k]?) → K U'
/-- a scout, and what a law has in hand beside it -/
def LW (w : World) (p N : Nat) (s : SO.Sc) (K : World → Prop) (U : World) : Prop := ∃ B, SC w p B N s U ∧ Kp B U K
theorem LW.out {w U : World} {p N : Nat} {s : SO.Sc} {K : World → Prop} (h : LW w p N s K U) : K U := by
  obtain ⟨B, _, k⟩ := h
  exact k U (Nat.le_refl _) (fun _ _ _ => rfl)
theorem LW.weak {w U : World} {p N : Nat} {s : SO.Sc} {K K' : World → Prop} (h : LW w p N s K U) (hk : ∀ V, K V → K' V) : LW w p N s K' U := by
  obtain ⟨B, x, k⟩ := h
  exact ⟨B, x, fun U' a b => hk _ (k U' a b)⟩
theorem LW.bl {w U : World} {p N : Nat} {s : SO.Sc} {K : World → Prop} (h : LW w p N s K U) : Bl w U := by
  obtain ⟨B, ⟨P, x⟩, k⟩ := h
  exact x.bl
theorem LW.num {w U : World} {p N : Nat} {s : SO.Sc} {K : World → Prop} (h : LW w p N s K U) : Num s N := by
  obtain ⟨B, ⟨P, x⟩, k⟩ := h
  exact x.num
theorem LW.grow {w U V : World} {p N : Nat} {s : SO.Sc} {K : World → Prop} (h : LW w p N s K U) (hb : Bl U V) : LW w p N s K V := by
  obtain ⟨B, ⟨P, x⟩, k⟩ := h
  exact ⟨B, ⟨P, x.grow hb⟩, fun U' a b => k U' (Nat.le_trans hb.size a) (fun i hi hn => (b i (Nat.lt_of_lt_of_le hi hb.size) hn).trans (hb.block i hi))⟩
theorem LW.more {w U : World} {p N M : Nat} {s : SO.Sc} {K : World → Prop} (h : LW w p N s K U) (hM : N ≤ M) : LW w p M s K U := by
  obtain ⟨B, ⟨P, x⟩, k⟩ := h
  exact ⟨B, ⟨P, x.more hM⟩, k⟩
theorem LW.new {w U : World} {p N : Nat} {B : Nat → Prop} {s : SO.Sc} (h : SC w p B N s U) : LW w p N s (fun _ => True) U := ⟨B, h, fun _ _ _ => trivial⟩
theorem LW.base {w0 w U : World} {p N : Nat} {s : SO.Sc} {K : World → Prop} (h : LW w p N s K U) (hb : Bl w0 w) : LW w0 p N s K U := by
  obtain ⟨B, ⟨P, x⟩, k⟩ := h
  exact ⟨B, ⟨P, x.base hb⟩, k⟩
/-- what lies in new blocks -/
theorem LW.add {w U V : World} {p N : Nat} {s : SO.Sc} {K K' : World → Prop} (h : LW w p N s K U) (hb : Bl U V) (hk : ∀ V' : World, V.heap.size ≤ V'.heap.size → (∀ i, U.heap.size ≤ i → i < V.heap.size → V'.heap[i]? = V.heap[i]?) → K' V') : LW w p N s (fun V => K V ∧ K' V) V := by
  obtain ⟨B, ⟨P, x⟩, k⟩ := h
  refine ⟨B, ⟨P, x.grow hb⟩, fun U' a b => ⟨k U' (Nat.le_trans hb.size a) (fun i hi hn => (b i (Nat.lt_of_lt_of_le hi hb.size) hn).trans (hb.block i hi)), hk U' a (fun i h1 h2 => b i h2 (fun e => ?_))⟩⟩
  have := (x.Bo i e).2
  omega
/-- frames as a slice: what they say, their rumours aside -/
def FV (a : Option Addr) (fs : List SO.Fr) (V : World) : Prop := ∀ (i : Nat) (f : SO.Fr), fs[i]? = some f → ∃ b off ra rc, a = some ⟨b, off, none⟩ ∧ b < V.heap.size ∧ V.rangeAt b (off + i * 238) (snL f.dst f.kind f.frm f.seq f.node zM (.slice ra f.rum.length rc))
theorem FRS.fv {W : World} {X : Nat → Prop} {a : Option Addr} {ys : List Sn} {fs : List SO.Fr} (h : FRS W X a ys fs) : FV a fs W := fun i f hf => by
  have hi : i < ys.length := by rw [h.len]; exact (List.getElem?_eq_some_iff.1 hf).1
  have hy : ys[i]? = some ys[i] := List.getElem?_eq_getElem hi
  obtain ⟨b, off, e1, e2, e3⟩ := h.rs i _ hy
  have e := h.each i _ f hy hf
  refine ⟨b, off, ys[i].ra, ys[i].rc, e1, e2, ?_⟩
  rw [← e.d, ← e.k, ← e.f, ← e.s, ← e.n, ← e.l]
  exact e3
theorem FV.five {a : Option Addr} {fs : List SO.Fr} {V : World} (h : FV a fs V) {f : SO.Fr} (hf : fs[0]? = some f) : ∃ b off, a = some ⟨b, off, none⟩ ∧ b < V.heap.size ∧ V.cell? ⟨b, off, none⟩ = some (.int .i64 f.dst) ∧ V.cell? ⟨b, off + 1, none⟩ = some (.int .i64 f.kind) ∧ V.cell? ⟨b, off + 2, none⟩ = some (.int .i64 f.frm) ∧ V.cell? ⟨b, off + 3, none⟩ = some (.int .i64 f.seq) ∧ V.cell? ⟨b, off + 4, none⟩ = some (.int .i64 f.node) := by
  obtain ⟨b, off, ra, rc, e1, e2, e3⟩ := h 0 f hf
  rw [Nat.zero_mul, Nat.add_zero] at e3
  exact ⟨b, off, e1, e2, e3 0 _ rfl, e3 1 _ rfl, e3 2 _ rfl, e3 3 _ rfl, e3 4 _ rfl⟩
theorem Ans.lw {w W w' : World} {p N M : Nat} {B : Nat → Prop} {s s0 : SO.Sc} {fs : List SO.Fr} {e : Ending} {K : World → Prop} (x : SC w p B M s0 W) (k : Kp B W K) (h : Ans w p B W N s fs e w') : ∃ a c, e = .returned (.slice a fs.length c) ∧ LW w p N s (fun V => K V ∧ FV a fs V) w' := by
  obtain ⟨a, c, ys, B', rfl, x', o, hf⟩ := h
  refine ⟨a, c, rfl, B', x', fun U' h1 h2 => ⟨k U' (Nat.le_trans o.size h1) (fun i hi hn => ?_), ?_⟩⟩
  · have hn' : ¬ B' i := fun hB => by
      rcases o.own i hB with h | h
      · exact hn h
      · omega
    rw [h2 i (Nat.lt_of_lt_of_le hi o.size) hn', o.block i hi hn]
  · have := hf.keep (X' := fun g => W.heap.size ≤ g ∧ ¬ B' g) h1 (fun g hx hg => ⟨h2 g hg hx.2, hx⟩)
    exact this.fv
theorem Tick_l {w U : World} {p N : Nat} {s : SO.Sc} {K : World → Prop} (h : LW w p N s K U) (hN : N ≤ 1000000000) (d : Int) (hd : i64 d) : Calls Try.prog 6 #[.pointer (some ⟨p, 0, none⟩), .int .i64 d] U fun e w' => ∃ a c, e = .returned (.slice a (SO.tick s d).2.length c) ∧ LW w p (N + 10) (SO.tick s d).1 (fun V => K V ∧ FV a (SO.tick s d).2 V) w' := by
  obtain ⟨B, ⟨P, x⟩, k⟩ := h
  exact (Tick_x x hN d hd).mono fun e w' h => Ans.lw ⟨P, x⟩ k h
theorem Hear_l {w U V : World} {p N : Nat} {s : SO.Sc} {K : World → Prop} (h : LW w p N s K U) (hb : Bl U V) (hN : N ≤ 10000000000) (FL : List Value) (f : SO.Fr) (a : Option Addr) (c : Nat) (hf : FrC FL f a c) (hfr : i64 f.frm) (hr : RS lyM V a f.rum) (ha : ∀ g off, a = some ⟨g, off, none⟩ → g < w.heap.size ∨ U.heap.size ≤ g) (hi : ∀ m ∈ f.rum, i64 m.1 ∧ i64 m.2.1) (hl : f.rum.length ≤ 1000) (h3 : f.kind ≠ 3) :
    Calls Try.prog 7 #[.pointer (some ⟨p, 0, none⟩), .agg FL.toArray] V fun e w' => ∃ a c, e = .returned (.slice a (SO.hear s f).2.length c) ∧ LW w p (N + 2 * f.rum.length + 1) (SO.hear s f).1 (fun V => K V ∧ FV a (SO.hear s f).2 V) w' := by
  obtain ⟨B, ⟨P, x⟩, k⟩ := h
  have y := x.grow hb
  refine (Hear_x y hN FL f a c hf hfr hr (fun g off e _ hB => ?_) hi hl (fun e => absurd e h3)).mono fun e w' h => ?_
  · have := x.Bo g hB
    rcases ha g off e with h | h <;> omega
  · refine Ans.lw ⟨P, y⟩ (fun U' a b => k U' (Nat.le_trans hb.size a) (fun i hi hn => (b i (Nat.lt_of_lt_of_le hi hb.size) hn).trans (hb.block i hi))) h
theorem All_l {w U : World} {p N : Nat} {s : SO.Sc} {Z : World → Prop} (h : LW w p N s Z U) : Calls Try.prog 8 #[.pointer (some ⟨p, 0, none⟩)] U fun e w' => ∃ a c, e = .returned (.slice a (K.all s.f).length c) ∧ RS lyM w' a (K.all s.f) ∧ LW w p N s Z w' := by
  obtain ⟨B, ⟨P, x⟩, k⟩ := id h
  refine (All_x x).mono ?_
  rintro e w' ⟨a, c, rfl, h1, h2⟩
  exact ⟨a, c, rfl, h1, h.grow h2⟩
theorem Me_l {w U : World} {p N : Nat} {s : SO.Sc} {K : World → Prop} (h : LW w p N s K U) : Calls Try.prog 11 #[.pointer (some ⟨p, 0, none⟩)] U fun e w' => e = .returned (.agg (meV (SO.of s s.me))) ∧ LW w p N s K w' := by
  obtain ⟨B, ⟨P, x⟩, k⟩ := id h
  refine (Me_x x).mono ?_
  rintro e w' ⟨rfl, h2⟩
  exact ⟨rfl, h.grow h2⟩
theorem Present_l {w U : World} {p N : Nat} {s : SO.Sc} {Z : World → Prop} (h : LW w p N s Z U) : Calls Try.prog 9 #[.pointer (some ⟨p, 0, none⟩)] U fun e w' => ∃ a c, e = .returned (.slice a (K.pres s.f).length c) ∧ LW w p N s Z w' := by
  obtain ⟨B, ⟨P, x⟩, k⟩ := id h
  refine (Present_x x).mono ?_
  rintro e w' ⟨v, rfl, h1, h2⟩
  obtain ⟨a, c, rfl, _⟩ := owns_rs lyI h1
  exact ⟨a, c, rfl, h.grow h2⟩
end Go.Proofs.Ytebmgajijjhinaa

/- Leave. -/
namespace Go.Proofs.Ytebmgajijjhinaa
open Go.RowKit Go.Maps
set_option linter.unusedVariables false
set_option linter.unusedSimpArgs false

theorem oth_len6 (s : SO.Sc) : (SO.oth s).length ≤ 6 := by
  unfold SO.oth
  have h1 := List.length_filter_le (fun k => !(k == s.me)) (K.pres s.f)
  have h3 := K.preL_len (K.all s.f) (K.all s.f).length
  rw [K.preL_all] at h3
  have := K.allN_len s.f 6
  unfold K.all at h3
  omega
theorem learn_me' (s : SO.Sc) (k st : Int) : (SO.turn s k st).me = s.me := learn_me _ _
end Go.Proofs.Ytebmgajijjhinaa

/- errands.add. -/
namespace Go.Proofs.Ytebmgajijjhinaa
open Go.RowKit Go.Maps
set_option linter.unusedVariables false
set_option linter.unusedSimpArgs false

theorem stepo_setU {P : Program} {ops : Array Oper} {o : Oper} {a : Act} {w : World} {K : Act → World → Prop} {Q : Exit → Act → World → Prop} {E : Prop} (hgd : o.guard = none) (ty : TypeId) (x y : Operand) (ho : o.op = .store ty x y) (g i : Nat) (v : Value) (hx : a.eval x = .pointer (some ⟨g, i, none⟩)) (hy : a.eval y = v) (hv : v.oneCell' = true) (hi : (P.info? ty).map (·.size) = some 1)
    (L L' : List Value) (t : TypeId) (hg : w.heap[g]? = some (.cells L.toArray t (0, 0))) (hl : i < L.length) (hL : L.set i v = L')
    (h : ∀ U, U.heap[g]? = some (.cells L'.toArray t (0, 0)) → Of1 g w U → K (a.put o.dst undef) U) : if Region.wanted o (yielded ops a.tmps) = true then Oper.wp P o a w K Q else E := by
  have hw : Region.wanted o (yielded ops a.tmps) = true := by simp [Region.wanted, hgd]
  rw [if_pos hw]
  have hc : v.cells = #[v] := by cases v <;> first | rfl | cases hv
  have hf : w.frozen? ⟨g, i, none⟩ = false := by simp [World.frozen?, hg]
  have hcell : w.cell? ⟨g, i, none⟩ = some (L[i]) := by rw [Lib.cell_of_heap hg]; simp [hl]
  have hrun : (storeVar ty ⟨g, i, none⟩ v).run P w = .ok () (w.setCell ⟨g, i, none⟩ v) := by
    cases hq : P.info? ty with
    | none => simp [hq] at hi
    | some inf =>
      have hs : inf.size = 1 := by simpa [hq] using hi
      have := run_storeCells_cells (P := P) g i [v] 0 w (fun j hj => by simp at hj; subst hj; simp [hcell]) (fun j hj => by simp at hj; subst hj; simpa using hf) (fun u hu => by simp at hu; rw [hu]; exact hv)
      have e : w.setCells g (i + 0) [v] = w.setCell ⟨g, i, none⟩ v := rfl
      rw [e] at this
      simp [storeVar, sizeOf, typeInfo, hq, hc, hs, this]
  unfold Oper.wp execOp
  simp only [ho, hx, hy, Instr.storeAt, Instr.sureAddr, Sem.run_bind, Sem.run_pure, Result.andThen_ok, hrun]
  refine h _ ?_ (Of1.of_grown (grown_setCell w g i v))
  rw [heap_setCell_own hg, List.setIfInBounds_toArray, hL]
theorem stepo_load1 {P : Program} {ops : Array Oper} {o : Oper} {a : Act} {w : World} {K : Act → World → Prop} {Q : Exit → Act → World → Prop} {E : Prop} (hgd : o.guard = none) (ty : TypeId) (x : Operand) (ho : o.op = .load ty x) (g i : Nat) (hx : a.eval x = .pointer (some ⟨g, i, none⟩)) (v : Value) (hc : w.cell? ⟨g, i, none⟩ = some v) {T : TypeId} (hu : P.underlying ty = some (.slice T))
    (h : K (a.put o.dst v) w) : if Region.wanted o (yielded ops a.tmps) = true then Oper.wp P o a w K Q else E := by
  have hw : Region.wanted o (yielded ops a.tmps) = true := by simp [Region.wanted, hgd]
  rw [if_pos hw]
  have hagg : (isAgg ty).run P w = .ok false w := by
    unfold isAgg
    rw [Sem.run_bind, run_underlying hu w]
    rfl
  have hl : (loadVar ty ⟨g, i, none⟩).run P w = .ok v w := by simp [loadVar, Sem.run_bind, hagg, hc]
  unfold Oper.wp execOp
  simp only [ho, hx, Instr.loadAt, Instr.sureAddr, Sem.run_bind, Sem.run_pure, Result.andThen_ok, hl]
  exact h
/-- all is as in W but for block p, one more block, and new ones -/
structure WX (W : World) (p : Nat) (ob : Option Nat) (U : World) : Prop where
  os : U.os = W.os
  tape : U.tape = W.tape
  output : U.output = W.output
  size : W.heap.size ≤ U.heap.size
  block : ∀ k, k < W.heap.size → k ≠ p → some k ≠ ob → U.heap[k]? = W.heap[k]?
theorem WX.refl (W : World) (p : Nat) (ob : Option Nat) : WX W p ob W := ⟨rfl, rfl, rfl, Nat.le_refl _, fun _ _ _ _ => rfl⟩
theorem WX.bl {W U V : World} {p : Nat} {ob : Option Nat} (h : WX W p ob U) (b : Bl U V) : WX W p ob V :=
  ⟨b.os.trans h.os, b.tape.trans h.tape, b.output.trans h.output, Nat.le_trans h.size b.size, fun k hk h1 h2 => (b.block k (Nat.lt_of_lt_of_le hk h.size)).trans (h.block k hk h1 h2)⟩
theorem WX.of1 {W U V : World} {p : Nat} {ob : Option Nat} (h : WX W p ob U) (b : Of1 p U V) : WX W p ob V :=
  ⟨b.os.trans h.os, b.tape.trans h.tape, b.output.trans h.output, Nat.le_trans h.size b.size, fun k hk h1 h2 => (b.block k (Nat.lt_of_lt_of_le hk h.size) h1).trans (h.block k hk h1 h2)⟩
theorem WX.grown {W U V : World} {p : Nat} {ob o : Option Nat} (h : WX W p ob U) (b : U.grownBy V o) (ho : ∀ k, o = some k → some k = ob ∨ W.heap.size ≤ k) : WX W p ob V :=
  ⟨b.os.trans h.os, b.tape.trans h.tape, b.output.trans h.output, Nat.le_trans h.size b.size, fun k hk h1 h2 => (b.block k (Nat.lt_of_lt_of_le hk h.size) (fun e => by
    rcases ho k e.symm with h3 | h3
    · exact h2 h3
    · omega)).trans (h.block k hk h1 h2)⟩
/-- the scout's block, and the errand that came -/
structure AH (W : World) (p : Nat) (ob : Option Nat) (C : List Value) (bx : Nat) (EL : List Value) (U : World) : Prop where
  wx : WX W p ob U
  row : U.heap[p]? = some (.cells C.toArray tSc (0, 0))
  box : U.heap[bx]? = some (.cells EL.toArray tEr (0, 0))
theorem AH.bl {W U V : World} {p bx : Nat} {ob : Option Nat} {C EL : List Value} (h : AH W p ob C bx EL U) (b : Bl U V) : AH W p ob C bx EL V := ⟨h.wx.bl b, (b.block _ (lt_heap h.row)).trans h.row, (b.block _ (lt_heap h.box)).trans h.box⟩
theorem AH.drewN {W U : World} {p bx : Nat} {ob : Option Nat} {C EL : List Value} (h : AH W p ob C bx EL U) (n : Nat) : AH W p ob C bx EL (U.drewN n) := h.bl ((Bl.refl U).drewN n)
theorem AH.alloc {W U : World} {p bx : Nat} {ob : Option Nat} {C EL : List Value} (h : AH W p ob C bx EL U) (x : Obj) : AH W p ob C bx EL (U.alloc x) := h.bl ((Bl.refl U).alloc x)
theorem own_lt {N k n : Nat} {W : World} {T : TypeId} {v : Value} {xs : List Value} (h : W.ownsRow N T k v n xs) {g : Nat} (e : v.ownBlock = some g) : g < W.heap.size := (owns_ge h e).2
/-- the errands lie elsewhere -/
theorem S0.ers {w W Z : World} {p : Nat} {P : Pl} {B : Nat → Prop} {N : Nat} {s : SO.Sc} (x : S0 w p P B N s W) (L : List SO.Er) (v : Value) (hx : WX W p P.ev.ownBlock Z) (hrow : Z.heap[p]? = some (.cells ((P.cells s).setIfInBounds 18 v) tSc (0, 0))) (ho : Z.ownsRow w.heap.size tEr 5 v L.length (flG lyE L)) (hl : L.length ≤ 16) (hv : ∀ g, v.ownBlock = some g → some g = P.ev.ownBlock ∨ W.heap.size ≤ g) : SX w p B W N { s with er := L } Z := by
  have ne : ∀ {g : Nat} {C : Array Value} {T : TypeId}, W.heap[g]? = some (.cells C T (0, 0)) → T ≠ tEr → T ≠ tSc → Z.heap[g]? = W.heap[g]? := fun {g C T} e t1 t2 => hx.block g (lt_heap e) (fun e2 => by subst e2; exact tags e x.row t2 rfl) (fun e2 => by
    obtain ⟨D, hD⟩ := own_tag x.er e2.symm
    exact tags e hD t1 rfl)
  have nb : Z.heap[P.b]? = W.heap[P.b]? := by
    obtain ⟨es, c, hm⟩ := x.vt.mp.isMap
    refine hx.block _ (lt_heap hm) (fun e => ?_) (fun e => ?_)
    · have hr := x.row
      rw [← e, hm] at hr; cases hr
    · obtain ⟨D, hD⟩ := own_tag x.er e.symm
      rw [hm] at hD; cases hD
  have hos : OS B (fun k => B k ∨ v.ownBlock = some k) W Z := ⟨hx.os, hx.tape, hx.output, hx.size, fun k hk hn => hx.block k hk (fun e => hn (e ▸ x.Bp)) (fun e => hn (x.Be k e.symm)), fun k h => by
    rcases h with h | h
    · exact Or.inl h
    · rcases hv k h with h | h
      · exact Or.inl (x.Be k h.symm)
      · exact Or.inr h⟩
  have hbl : Bl w Z := hos.below x.bl (fun k h => (x.Bo k h).1)
  have nm := x.num
  refine SX.of (P := { P with ev := v }) ⟨?_, ⟨(ne x.vt.row (by decide) (by decide)).trans x.vt.row, x.vt.mp.block nb, x.vt.q0, x.vt.b0, hbl⟩,
    ⟨(ne x.hl.row (by decide) (by decide)).trans x.hl.row, own_keep x.hl.own (fun g C e e2 => ne e2 (by decide) (by decide)), x.hl.b0, hbl, x.hl.rep, x.hl.ok, x.hl.t1, x.hl.t2⟩,
    x.ln.keep (fun g off C e e2 => ne e2 (by decide) (by decide)), x.hp.keep (fun g off C e e2 => ne e2 (by decide) (by decide)), ho, Or.inl x.Bp, Or.inl x.Bq, Or.inl x.Bb, Or.inl x.Bh, (fun g e => Or.inl (x.Bv g e)), (fun g off e => Or.inl (x.Bn g off e)), (fun g off e => Or.inl (x.Ba g off e)), (fun g e => Or.inr e), ?_,
    ⟨nm.n1, nm.n2, nm.q1, nm.q2, nm.s1, nm.s2, nm.m1, nm.m2, nm.m3, nm.p1, nm.p2, nm.ok, hl, nm.ll, nm.l1, nm.hh⟩, x.lcp⟩ hos
  · exact hrow
  · intro k hk
    rcases hk with h | h
    · exact ⟨(x.Bo k h).1, Nat.lt_of_lt_of_le (x.Bo k h).2 hx.size⟩
    · exact owns_ge ho h
theorem infoErs : (Try.prog.info? 67).map (·.size) = some 1 := by kernel_rfl
set_option maxRecDepth 8000 in
set_option maxHeartbeats 4000000 in
theorem add_x {w W : World} {p : Nat} {P : Pl} {B : Nat → Prop} {N : Nat} {s : SO.Sc} (x : S0 w p P B N s W) (e : SO.Er) :
    Calls Try.prog 44 #[.pointer (some ⟨p, 18, none⟩), .agg (erV e)] W fun e' w' => e' = .returned (.tuple #[]) ∧ SX w p B W N { s with er := SO.addE s.er e } w' := by
  obtain ⟨RL, hRL⟩ : ∃ RL, (P.cells s).toList = RL := ⟨_, rfl⟩
  have hRLl : RL.length = 19 := by rw [← hRL]; rfl
  have hR18 : RL[18]? = some P.ev := by rw [← hRL]; rfl
  have HRW : Hid (∀ v, (RL.set 18 v).toArray = (P.cells s).setIfInBounds 18 v) := fun v => by rw [← hRL]; rfl
  have hrow : W.heap[p]? = some (.cells RL.toArray tSc (0, 0)) := by rw [← hRL]; exact x.row
  have hEL : (lyE.f e).length = 5 := lyE.len e
  obtain ⟨fs, humE⟩ := undEr
  have hiE : (Try.prog.info? tEr).map (·.size) = some (lyE.f e).length := by rw [hEL]; exact infoEr
  obtain ⟨z, hz1, hz2⟩ := infoEr3
  have hpl : p < W.heap.size := lt_heap hrow
  have HB : AH W p P.ev.ownBlock RL W.heap.size (lyE.f e) (W.alloc (.cells (lyE.f e).toArray tEr)) := ⟨(WX.refl W _ _).bl ((Bl.refl W).alloc _), (((Bl.refl W).alloc _).block _ hpl).trans hrow, heap_alloc_new _ _⟩
  have SK : Hid (∀ U, AH W p P.ev.ownBlock RL W.heap.size (lyE.f e) U → U.rangeAt W.heap.size 0 (lyE.f e)) := fun U h j v hv => by rw [Nat.zero_add]; exact cellL h.box hv
  have SC : Hid (∀ U, AH W p P.ev.ownBlock RL W.heap.size (lyE.f e) U → U.cell? ⟨p, 18, none⟩ = some P.ev) := fun U h => cellL h.row hR18
  have SK3 : Hid (∀ U V, AH W p P.ev.ownBlock RL W.heap.size (lyE.f e) U → Of1 p U V → V.rangeAt W.heap.size 0 (lyE.f e)) := fun U V h o j v hv => by rw [Nat.zero_add]; exact cellL ((o.block _ (lt_heap h.box) (by omega)).trans h.box) hv
  have hel := x.num.el
  have hws := x.bl.size
  have hb1 : Bl W ((W.alloc (.cells (lyE.f e).toArray tEr)).drewN 1) := ((Bl.refl W).alloc _).drewN 1
  have hsz : w.heap.size ≤ ((W.alloc (.cells (lyE.f e).toArray tEr)).drewN 1).heap.size := Nat.le_trans hws hb1.size
  have HOW : Hid (((W.alloc (.cells (lyE.f e).toArray tEr)).drewN 1).ownsRow w.heap.size tEr 5 P.ev s.er.length (flG lyE s.er)) := ownsRow_bl x.er hb1
  have hob : ∀ g, P.ev.ownBlock = some g → g < W.heap.size ∧ g ≠ p := fun g hg => ⟨own_lt x.er hg, fun e2 => by
    obtain ⟨D, hD⟩ := own_tag x.er hg
    subst e2
    exact tags hD hrow (by decide) rfl⟩
  have HAP : Hid (∀ w2, ((W.alloc (.cells (lyE.f e).toArray tEr)).drewN 1).grownBy w2 P.ev.ownBlock → AH W p P.ev.ownBlock RL W.heap.size (lyE.f e) w2) := fun w2 hg => by
    have h1 := HB.drewN 1
    refine ⟨h1.wx.grown hg (fun k hk => Or.inl hk.symm), (hg.block p (lt_heap h1.row) (fun e2 => (hob p e2.symm).2 rfl)).trans h1.row, (hg.block _ (lt_heap h1.box) (fun e2 => ?_)).trans h1.box⟩
    have := (hob _ e2.symm).1
    omega
  have K18 : Hid (∀ v (U : World), U.heap[p]? = some (.cells (RL.set 18 v).toArray tSc (0, 0)) → U.cell? ⟨p, 18, none⟩ = some v) := fun v U h => cellL h (by rw [List.getElem?_set_self (by omega)])
  have own3 : ∀ (U3 w2 : World) (v : Value) (n : Nat) (L : List SO.Er), w2.ownsRow w.heap.size tEr 5 v n (flG lyE L) → w2.heap[p]? = some (.cells RL.toArray tSc (0, 0)) → Of1 p w2 U3 → U3.ownsRow w.heap.size tEr 5 v n (flG lyE L) := fun U3 w2 v n L h r o => own_keep h (fun g C e e2 => o.block g (lt_heap e2) (fun e3 => by subst e3; exact tags e2 r (by decide) rfl))
  by_cases h16 : s.er.length < 16
  · have FIN : Hid (∀ (U3 w2 : World) (g c' : Nat), w2.ownsRow w.heap.size tEr 5 (.slice (some ⟨g, 0, none⟩) (s.er.length + 1) c') (s.er.length + 1) (flG lyE (s.er ++ [e])) → AH W p P.ev.ownBlock RL W.heap.size (lyE.f e) w2 → (P.ev.ownBlock = some g ∨ ((W.alloc (.cells (lyE.f e).toArray tEr)).drewN 1).heap.size ≤ g) → g < w2.heap.size → U3.heap[p]? = some (.cells (RL.set 18 (.slice (some ⟨g, 0, none⟩) (s.er.length + 1) c')).toArray tSc (0, 0)) → Of1 p w2 U3 → SX w p B W N { s with er := SO.addE s.er e } U3) := fun U3 w2 g c' g1 hz g3 g4 r3 o3 => by
      have ha : SO.addE s.er e = s.er ++ [e] := by unfold SO.addE; rw [if_neg (by omega)]
      rw [ha]
      have hlen : (s.er ++ [e]).length = s.er.length + 1 := by simp
      refine x.ers (s.er ++ [e]) (.slice (some ⟨g, 0, none⟩) (s.er.length + 1) c') (hz.wx.of1 o3) (by rw [← HRW.out]; exact r3) (by rw [hlen]; exact own3 _ _ _ _ _ g1 hz.row o3) (by rw [hlen]; omega) (fun q hq => ?_)
      have e2 : g = q := Option.some.inj hq
      subst e2
      rcases g3 with h | h
      · exact Or.inl h.symm
      · exact Or.inr (Nat.le_trans hb1.size h)
    generalize SO.addE s.er e = L2 at *
    generalize hgn : s.er.length = el at *
    generalize s.er = er at *
    have HEL0 : el = er.length := hgn.symm
    have HEL := hidI HEL0
    clear HEL0
    have h17 : ¬ (16 : Int) < (el : Int) + 1 := by omega
    generalize P.ev = ev at *
    clear x hR18 hRL HRW hob own3 hgn hrow hb1 hpl
    unfold erV
    generalize hELe : lyE.f e = EL at *
    have HEC : Hid (EL.toArray = (lyE.f e).toArray) := by show _ = _; rw [hELe]
    clear hELe
    go_enter Try.func44, Try.ntmps44
    go_wp2_with fail
    refine wp_region_noPanic ?_
    refine wp_region_held_drew (S := fun U => U.rangeAt W.heap.size 0 EL) (by kernel_rfl) ((SK.out _ (HB.drewN 1))) (fun hHeld => ?_)
    refine wpAnyH_take (i := 0) rfl (by kernel_rfl) (by kernel_rfl) (by kernel_rfl) (fun _ _ _ h => h) (yi_move (by kernel_rfl) rfl rfl) (by assumption) ?_
    simp only [Act.put, List.getElem_toArray, List.getElem_cons_succ, List.getElem_cons_zero, List.setIfInBounds_toArray, List.set_cons_zero, List.set_cons_succ]
    refine wpAnyH_take (i := 1) rfl (by kernel_rfl) (by kernel_rfl) (by kernel_rfl) (fun _ _ _ h => h) (yi_move (by kernel_rfl) rfl rfl) (by assumption) ?_
    simp only [Act.put, List.getElem_toArray, List.getElem_cons_succ, List.getElem_cons_zero, List.setIfInBounds_toArray, List.set_cons_zero, List.set_cons_succ]
    refine wpAnyH_take (i := 2) (v := ?_) rfl (by kernel_rfl) (by kernel_rfl) (by kernel_rfl) (fun _ _ _ h => h) (Or.inl ⟨by kernel_rfl, ?_⟩) (by assumption) ?_
    rotate_left
    · (intro w hSw; (try dsimp only at hSw); go_simp; (try with_reducible rfl))
    simp only [Act.put, List.getElem_toArray, List.getElem_cons_succ, List.getElem_cons_zero, List.setIfInBounds_toArray, List.set_cons_zero, List.set_cons_succ]
    refine wpAnyH_take (i := 4) (v := .agg (List.toArray EL)) rfl (by kernel_rfl) (by kernel_rfl) (by kernel_rfl) (fun _ _ _ h => h) (yieldsIf_load_mid (by kernel_rfl) _ (.tmp 3) (by kernel_rfl) W.heap.size 0 (by kernel_rfl) EL _ (fun W hW => hW) humE rfl hiE) (by assumption) ?_
    simp only [Act.put, List.getElem_toArray, List.getElem_cons_succ, List.getElem_cons_zero, List.setIfInBounds_toArray, List.set_cons_zero, List.set_cons_succ]
    refine wpAnyH_ready (rs := [3, 5]) (by kernel_rfl) (by simp) ?_
    refine AllReadyH.cons (o := _) rfl (fun K hK => ?_) ?_
    · refine stepo_load1 rfl 67 _ rfl p 18 (by rfl) ev (SC.out _ (HB.drewN 1)) undErs (hK.out _ _ ((SK.out _ (HB.drewN 1))) (fun hHeld => ?_))
      clear hK K
      (try simp only [Act.put, List.getElem_toArray, List.getElem_cons_succ, List.getElem_cons_zero, List.setIfInBounds_toArray, List.set_cons_zero, List.set_cons_succ])
      refine wpAnyH_ready (rs := [5]) (by kernel_rfl) (by simp) ?_
      refine AllReadyH.cons (o := _) rfl (fun K hK => ?_) AllReadyH.nil
      refine stepo_bs1 rfl 67 tEr _ rfl EL 5 40 (.agg z) undErs hz1 hEL (by omega) (by omega) (by rfl) (hK.out _ _ ((SK.out _ (((HB.drewN 1)).alloc _))) (fun hHeld => ?_))
      clear hK K
      (try simp only [Act.put, List.getElem_toArray, List.getElem_cons_succ, List.getElem_cons_zero, List.setIfInBounds_toArray, List.set_cons_zero, List.set_cons_succ])
      refine wpAnyH_ready (rs := [6]) (by kernel_rfl) (by simp) ?_
      refine AllReadyH.cons (o := _) rfl (fun K hK => ?_) AllReadyH.nil
      refine stepo_app1X lyE tEr 67 (.agg z) 40 undErs hz1 hz2 (by omega) rfl _ _ rfl w.heap.size el er HEL.out e ev (by rfl) hsz HOW.out _ rfl (by rfl) (by omega) ?_ _ HEC.out rfl
      intro g c' w2 g1 g2 g3 g4
      have HZ := HAP.out w2 g2
      refine hK.out _ _ (SK.out _ HZ) (fun hHeld => ?_)
      clear hK K
      (try simp only [Act.put, List.getElem_toArray, List.getElem_cons_succ, List.getElem_cons_zero, List.setIfInBounds_toArray, List.set_cons_zero, List.set_cons_succ])
      refine wpAnyH_take (i := 7) (v := ?_) rfl (by kernel_rfl) (by kernel_rfl) (by kernel_rfl) (fun _ _ _ h => h) (Or.inl ⟨by kernel_rfl, ?_⟩) (by assumption) ?_
      rotate_left
      · (intro w hSw; (try dsimp only at hSw); go_simp; (try with_reducible rfl))
      simp only [Act.put, List.getElem_toArray, List.getElem_cons_succ, List.getElem_cons_zero, List.setIfInBounds_toArray, List.set_cons_zero, List.set_cons_succ]
      refine wpAnyH_ready (rs := [8]) (by kernel_rfl) (by simp) ?_
      refine AllReadyH.cons (o := _) rfl (fun K hK => ?_) AllReadyH.nil
      refine stepo_setU rfl 67 _ _ rfl p 18 (.slice (some ⟨g, 0, none⟩) (el + 1) c') (by rfl) (by rfl) rfl infoErs RL _ tSc HZ.row (by omega) rfl ?_
      intro U3 R3 O3
      refine hK.out _ _ (SK3.out _ _ HZ O3) (fun hHeld => ?_)
      clear hK K
      (try simp only [Act.put, List.getElem_toArray, List.getElem_cons_succ, List.getElem_cons_zero, List.setIfInBounds_toArray, List.set_cons_zero, List.set_cons_succ])
      refine wpAnyH_done (by kernel_rfl) ?_ _
      refine NoPanic.normal ?_
      have k18 := K18.out _ _ R3
      have HF := hidI (FIN.out U3 w2 g c' g1 HZ g3 g4 R3 O3)
      clear g1 g3 g4 HZ O3 g2 R3 hHeld
      have K5 := K18
      (try clear HB SK SC SK3 HAP HOW FIN K18)
      go_wp2_with fail
      refine bodyPost_end (results_none rfl _ _ _) rfl ?_
      exact ⟨rfl, HF.out⟩
    refine AllReadyH.cons (o := _) rfl (fun K hK => ?_) ?_
    · refine stepo_bs1 rfl 67 tEr _ rfl EL 5 40 (.agg z) undErs hz1 hEL (by omega) (by omega) (by rfl) (hK.out _ _ ((SK.out _ (((HB.drewN 1)).alloc _))) (fun hHeld => ?_))
      clear hK K
      (try simp only [Act.put, List.getElem_toArray, List.getElem_cons_succ, List.getElem_cons_zero, List.setIfInBounds_toArray, List.set_cons_zero, List.set_cons_succ])
      refine wpAnyH_ready (rs := [3]) (by kernel_rfl) (by simp) ?_
      refine AllReadyH.cons (o := _) rfl (fun K hK => ?_) AllReadyH.nil
      refine stepo_load1 rfl 67 _ rfl p 18 (by rfl) ev (SC.out _ (((HB.drewN 1)).alloc _)) undErs (hK.out _ _ ((SK.out _ (((HB.drewN 1)).alloc _))) (fun hHeld => ?_))
      clear hK K
      (try simp only [Act.put, List.getElem_toArray, List.getElem_cons_succ, List.getElem_cons_zero, List.setIfInBounds_toArray, List.set_cons_zero, List.set_cons_succ])
      refine wpAnyH_ready (rs := [6]) (by kernel_rfl) (by simp) ?_
      refine AllReadyH.cons (o := _) rfl (fun K hK => ?_) AllReadyH.nil
      refine stepo_app1X lyE tEr 67 (.agg z) 40 undErs hz1 hz2 (by omega) rfl _ _ rfl w.heap.size el er HEL.out e ev (by rfl) hsz HOW.out _ rfl (by rfl) (by omega) ?_ _ HEC.out rfl
      intro g c' w2 g1 g2 g3 g4
      have HZ := HAP.out w2 g2
      refine hK.out _ _ (SK.out _ HZ) (fun hHeld => ?_)
      clear hK K
      (try simp only [Act.put, List.getElem_toArray, List.getElem_cons_succ, List.getElem_cons_zero, List.setIfInBounds_toArray, List.set_cons_zero, List.set_cons_succ])
      refine wpAnyH_take (i := 7) (v := ?_) rfl (by kernel_rfl) (by kernel_rfl) (by kernel_rfl) (fun _ _ _ h => h) (Or.inl ⟨by kernel_rfl, ?_⟩) (by assumption) ?_
      rotate_left
      · (intro w hSw; (try dsimp only at hSw); go_simp; (try with_reducible rfl))
      simp only [Act.put, List.getElem_toArray, List.getElem_cons_succ, List.getElem_cons_zero, List.setIfInBounds_toArray, List.set_cons_zero, List.set_cons_succ]
      refine wpAnyH_ready (rs := [8]) (by kernel_rfl) (by simp) ?_
      refine AllReadyH.cons (o := _) rfl (fun K hK => ?_) AllReadyH.nil
      refine stepo_setU rfl 67 _ _ rfl p 18 (.slice (some ⟨g, 0, none⟩) (el + 1) c') (by rfl) (by rfl) rfl infoErs RL _ tSc HZ.row (by omega) rfl ?_
      intro U3 R3 O3
      refine hK.out _ _ (SK3.out _ _ HZ O3) (fun hHeld => ?_)
      clear hK K
      (try simp only [Act.put, List.getElem_toArray, List.getElem_cons_succ, List.getElem_cons_zero, List.setIfInBounds_toArray, List.set_cons_zero, List.set_cons_succ])
      refine wpAnyH_done (by kernel_rfl) ?_ _
      refine NoPanic.normal ?_
      have k18 := K18.out _ _ R3
      have HF := hidI (FIN.out U3 w2 g c' g1 HZ g3 g4 R3 O3)
      clear g1 g3 g4 HZ O3 g2 R3 hHeld
      have K5 := K18
      (try clear HB SK SC SK3 HAP HOW FIN K18)
      go_wp2_with fail
      refine bodyPost_end (results_none rfl _ _ _) rfl ?_
      exact ⟨rfl, HF.out⟩
    exact AllReadyH.nil
  · have h16e : s.er.length = 16 := by omega
    have FIN : Hid (∀ (U3 w2 : World) (g c' : Nat), w2.ownsRow w.heap.size tEr 5 (.slice (some ⟨g, 0, none⟩) (s.er.length + 1) c') (s.er.length + 1) (flG lyE (s.er ++ [e])) → AH W p P.ev.ownBlock RL W.heap.size (lyE.f e) w2 → (P.ev.ownBlock = some g ∨ ((W.alloc (.cells (lyE.f e).toArray tEr)).drewN 1).heap.size ≤ g) → g < w2.heap.size → U3.heap[p]? = some (.cells (RL.set 18 (.slice (some ⟨g, 0, none⟩) (s.er.length + 1) c')).toArray tSc (0, 0)) → Of1 p w2 U3 → Calls Try.prog 62 #[.slice (some ⟨g, 0, none⟩) (s.er.length + 1) c', .int .i64 0, .int .i64 1] U3 fun e5 w5 => ∃ v5, e5 = .returned v5 ∧ (w5.heap[p]? = some (.cells (RL.set 18 (.slice (some ⟨g, 0, none⟩) (s.er.length + 1) c')).toArray tSc (0, 0)) ∧ v5.oneCell' = true) ∧ ∀ U6 : World, U6.heap[p]? = some (.cells ((RL.set 18 (.slice (some ⟨g, 0, none⟩) (s.er.length + 1) c')).set 18 v5).toArray tSc (0, 0)) → Of1 p w5 U6 → SX w p B W N { s with er := SO.addE s.er e } U6) := fun U3 w2 g c' g1 hz g3 g4 r3 o3 => by
      have ha : SO.addE s.er e = (s.er ++ [e]).drop 1 := by unfold SO.addE; rw [if_pos (by omega)]
      rw [ha]
      have hlen : (s.er ++ [e]).length = s.er.length + 1 := by simp
      have ho3 := own3 _ _ _ _ _ g1 hz.row o3
      have hgp : g ≠ p := fun e2 => by
        subst e2
        obtain ⟨D, hD⟩ := own_tag g1 (g := g) rfl
        exact tags hD hz.row (by decide) rfl
      refine (DeleteE (n := s.er.length + 1) hlen.symm ho3 (by omega) (by omega)).mono ?_
      rintro e5 w5 ⟨v5, rfl, q1, q2, q3⟩
      have hr5 : w5.heap[p]? = some (.cells (RL.set 18 (.slice (some ⟨g, 0, none⟩) (s.er.length + 1) c')).toArray tSc (0, 0)) := (q2.block p (lt_heap r3) (fun e2 => hgp (Option.some.inj e2).symm)).trans r3
      have hv5 : v5.oneCell' = true := by
        obtain ⟨_, ⟨h1, _⟩ | ⟨g', cap', cur, h1, _⟩⟩ := q1
        · rw [h1]; rfl
        · rw [h1]; rfl
      refine ⟨v5, rfl, ⟨hr5, hv5⟩, fun U6 r6 o6 => ?_⟩
      rw [List.set_set] at r6
      have hl2 : ((s.er ++ [e]).drop 1).length = s.er.length + 1 - 1 := by rw [List.length_drop, hlen]
      refine x.ers ((s.er ++ [e]).drop 1) v5 (((hz.wx.of1 o3).grown q2 (fun k hk => ?_)).of1 o6) (by rw [← HRW.out]; exact r6) ?_ (by rw [hl2]; omega) (fun q hq => ?_)
      · have e2 : g = k := Option.some.inj hk
        subst e2
        rcases g3 with h | h
        · exact Or.inl h.symm
        · exact Or.inr (Nat.le_trans hb1.size h)
      · rw [hl2]
        exact own_keep q1 (fun g2 C e e2 => o6.block g2 (lt_heap e2) (fun e3 => by subst e3; exact tags e2 hr5 (by decide) rfl))
      · rw [q3] at hq
        have e2 : g = q := Option.some.inj hq
        subst e2
        rcases g3 with h | h
        · exact Or.inl h.symm
        · exact Or.inr (Nat.le_trans hb1.size h)
    generalize SO.addE s.er e = L2 at *
    generalize hgn : s.er.length = el at *
    generalize s.er = er at *
    have HEL0 : el = er.length := hgn.symm
    have HEL := hidI HEL0
    clear HEL0
    have h17 : (16 : Int) < (el : Int) + 1 := by omega
    generalize P.ev = ev at *
    clear x hR18 hRL HRW hob own3 hgn hrow hb1 hpl h16e
    unfold erV
    generalize hELe : lyE.f e = EL at *
    have HEC : Hid (EL.toArray = (lyE.f e).toArray) := by show _ = _; rw [hELe]
    clear hELe
    go_enter Try.func44, Try.ntmps44
    go_wp2_with fail
    refine wp_region_noPanic ?_
    refine wp_region_held_drew (S := fun U => U.rangeAt W.heap.size 0 EL) (by kernel_rfl) ((SK.out _ (HB.drewN 1))) (fun hHeld => ?_)
    refine wpAnyH_take (i := 0) rfl (by kernel_rfl) (by kernel_rfl) (by kernel_rfl) (fun _ _ _ h => h) (yi_move (by kernel_rfl) rfl rfl) (by assumption) ?_
    simp only [Act.put, List.getElem_toArray, List.getElem_cons_succ, List.getElem_cons_zero, List.setIfInBounds_toArray, List.set_cons_zero, List.set_cons_succ]
    refine wpAnyH_take (i := 1) rfl (by kernel_rfl) (by kernel_rfl) (by kernel_rfl) (fun _ _ _ h => h) (yi_move (by kernel_rfl) rfl rfl) (by assumption) ?_
    simp only [Act.put, List.getElem_toArray, List.getElem_cons_succ, List.getElem_cons_zero, List.setIfInBounds_toArray, List.set_cons_zero, List.set_cons_succ]
    refine wpAnyH_take (i := 2) (v := ?_) rfl (by kernel_rfl) (by kernel_rfl) (by kernel_rfl) (fun _ _ _ h => h) (Or.inl ⟨by kernel_rfl, ?_⟩) (by assumption) ?_
    rotate_left
    · (intro w hSw; (try dsimp only at hSw); go_simp; (try with_reducible rfl))
    simp only [Act.put, List.getElem_toArray, List.getElem_cons_succ, List.getElem_cons_zero, List.setIfInBounds_toArray, List.set_cons_zero, List.set_cons_succ]
    refine wpAnyH_take (i := 4) (v := .agg (List.toArray EL)) rfl (by kernel_rfl) (by kernel_rfl) (by kernel_rfl) (fun _ _ _ h => h) (yieldsIf_load_mid (by kernel_rfl) _ (.tmp 3) (by kernel_rfl) W.heap.size 0 (by kernel_rfl) EL _ (fun W hW => hW) humE rfl hiE) (by assumption) ?_
    simp only [Act.put, List.getElem_toArray, List.getElem_cons_succ, List.getElem_cons_zero, List.setIfInBounds_toArray, List.set_cons_zero, List.set_cons_succ]
    refine wpAnyH_ready (rs := [3, 5]) (by kernel_rfl) (by simp) ?_
    refine AllReadyH.cons (o := _) rfl (fun K hK => ?_) ?_
    · refine stepo_load1 rfl 67 _ rfl p 18 (by rfl) ev (SC.out _ (HB.drewN 1)) undErs (hK.out _ _ ((SK.out _ (HB.drewN 1))) (fun hHeld => ?_))
      clear hK K
      (try simp only [Act.put, List.getElem_toArray, List.getElem_cons_succ, List.getElem_cons_zero, List.setIfInBounds_toArray, List.set_cons_zero, List.set_cons_succ])
      refine wpAnyH_ready (rs := [5]) (by kernel_rfl) (by simp) ?_
      refine AllReadyH.cons (o := _) rfl (fun K hK => ?_) AllReadyH.nil
      refine stepo_bs1 rfl 67 tEr _ rfl EL 5 40 (.agg z) undErs hz1 hEL (by omega) (by omega) (by rfl) (hK.out _ _ ((SK.out _ (((HB.drewN 1)).alloc _))) (fun hHeld => ?_))
      clear hK K
      (try simp only [Act.put, List.getElem_toArray, List.getElem_cons_succ, List.getElem_cons_zero, List.setIfInBounds_toArray, List.set_cons_zero, List.set_cons_succ])
      refine wpAnyH_ready (rs := [6]) (by kernel_rfl) (by simp) ?_
      refine AllReadyH.cons (o := _) rfl (fun K hK => ?_) AllReadyH.nil
      refine stepo_app1X lyE tEr 67 (.agg z) 40 undErs hz1 hz2 (by omega) rfl _ _ rfl w.heap.size el er HEL.out e ev (by rfl) hsz HOW.out _ rfl (by rfl) (by omega) ?_ _ HEC.out rfl
      intro g c' w2 g1 g2 g3 g4
      have HZ := HAP.out w2 g2
      refine hK.out _ _ (SK.out _ HZ) (fun hHeld => ?_)
      clear hK K
      (try simp only [Act.put, List.getElem_toArray, List.getElem_cons_succ, List.getElem_cons_zero, List.setIfInBounds_toArray, List.set_cons_zero, List.set_cons_succ])
      refine wpAnyH_take (i := 7) (v := ?_) rfl (by kernel_rfl) (by kernel_rfl) (by kernel_rfl) (fun _ _ _ h => h) (Or.inl ⟨by kernel_rfl, ?_⟩) (by assumption) ?_
      rotate_left
      · (intro w hSw; (try dsimp only at hSw); go_simp; (try with_reducible rfl))
      simp only [Act.put, List.getElem_toArray, List.getElem_cons_succ, List.getElem_cons_zero, List.setIfInBounds_toArray, List.set_cons_zero, List.set_cons_succ]
      refine wpAnyH_ready (rs := [8]) (by kernel_rfl) (by simp) ?_
      refine AllReadyH.cons (o := _) rfl (fun K hK => ?_) AllReadyH.nil
      refine stepo_setU rfl 67 _ _ rfl p 18 (.slice (some ⟨g, 0, none⟩) (el + 1) c') (by rfl) (by rfl) rfl infoErs RL _ tSc HZ.row (by omega) rfl ?_
      intro U3 R3 O3
      refine hK.out _ _ (SK3.out _ _ HZ O3) (fun hHeld => ?_)
      clear hK K
      (try simp only [Act.put, List.getElem_toArray, List.getElem_cons_succ, List.getElem_cons_zero, List.setIfInBounds_toArray, List.set_cons_zero, List.set_cons_succ])
      refine wpAnyH_done (by kernel_rfl) ?_ _
      refine NoPanic.normal ?_
      have k18 := K18.out _ _ R3
      have HF := hidI (FIN.out U3 w2 g c' g1 HZ g3 g4 R3 O3)
      clear g1 g3 g4 HZ O3 g2 R3 hHeld
      have K5 := K18
      (try clear HB SK SC SK3 HAP HOW FIN K18)
      go_wp2_with (first
        | (go_at_call 62; refine (HF.out).mono ?_; clear HF; rintro e5 w5 ⟨v5, rfl, ⟨r5, o5⟩, f5⟩; have R5 := hidI r5; have F5 := hidI f5; clear r5 f5 k18; have k18 := K5.out _ _ R5.out)
        | (refine wl_setU rfl 67 _ _ rfl p 18 v5 rfl rfl o5 infoErs _ _ tSc R5.out (by rw [List.length_set]; omega) rfl ?_; intro U6 R6 O6; have HG := hidI (F5.out U6 R6 O6); clear R6 O6 R5 F5))
      refine bodyPost_end (results_none rfl _ _ _) rfl ?_
      exact ⟨rfl, HG.out⟩
    refine AllReadyH.cons (o := _) rfl (fun K hK => ?_) ?_
    · refine stepo_bs1 rfl 67 tEr _ rfl EL 5 40 (.agg z) undErs hz1 hEL (by omega) (by omega) (by rfl) (hK.out _ _ ((SK.out _ (((HB.drewN 1)).alloc _))) (fun hHeld => ?_))
      clear hK K
      (try simp only [Act.put, List.getElem_toArray, List.getElem_cons_succ, List.getElem_cons_zero, List.setIfInBounds_toArray, List.set_cons_zero, List.set_cons_succ])
      refine wpAnyH_ready (rs := [3]) (by kernel_rfl) (by simp) ?_
      refine AllReadyH.cons (o := _) rfl (fun K hK => ?_) AllReadyH.nil
      refine stepo_load1 rfl 67 _ rfl p 18 (by rfl) ev (SC.out _ (((HB.drewN 1)).alloc _)) undErs (hK.out _ _ ((SK.out _ (((HB.drewN 1)).alloc _))) (fun hHeld => ?_))
      clear hK K
      (try simp only [Act.put, List.getElem_toArray, List.getElem_cons_succ, List.getElem_cons_zero, List.setIfInBounds_toArray, List.set_cons_zero, List.set_cons_succ])
      refine wpAnyH_ready (rs := [6]) (by kernel_rfl) (by simp) ?_
      refine AllReadyH.cons (o := _) rfl (fun K hK => ?_) AllReadyH.nil
      refine stepo_app1X lyE tEr 67 (.agg z) 40 undErs hz1 hz2 (by omega) rfl _ _ rfl w.heap.size el er HEL.out e ev (by rfl) hsz HOW.out _ rfl (by rfl) (by omega) ?_ _ HEC.out rfl
      intro g c' w2 g1 g2 g3 g4
      have HZ := HAP.out w2 g2
      refine hK.out _ _ (SK.out _ HZ) (fun hHeld => ?_)
      clear hK K
      (try simp only [Act.put, List.getElem_toArray, List.getElem_cons_succ, List.getElem_cons_zero, List.setIfInBounds_toArray, List.set_cons_zero, List.set_cons_succ])
      refine wpAnyH_take (i := 7) (v := ?_) rfl (by kernel_rfl) (by kernel_rfl) (by kernel_rfl) (fun _ _ _ h => h) (Or.inl ⟨by kernel_rfl, ?_⟩) (by assumption) ?_
      rotate_left
      · (intro w hSw; (try dsimp only at hSw); go_simp; (try with_reducible rfl))
      simp only [Act.put, List.getElem_toArray, List.getElem_cons_succ, List.getElem_cons_zero, List.setIfInBounds_toArray, List.set_cons_zero, List.set_cons_succ]
      refine wpAnyH_ready (rs := [8]) (by kernel_rfl) (by simp) ?_
      refine AllReadyH.cons (o := _) rfl (fun K hK => ?_) AllReadyH.nil
      refine stepo_setU rfl 67 _ _ rfl p 18 (.slice (some ⟨g, 0, none⟩) (el + 1) c') (by rfl) (by rfl) rfl infoErs RL _ tSc HZ.row (by omega) rfl ?_
      intro U3 R3 O3
      refine hK.out _ _ (SK3.out _ _ HZ O3) (fun hHeld => ?_)
      clear hK K
      (try simp only [Act.put, List.getElem_toArray, List.getElem_cons_succ, List.getElem_cons_zero, List.setIfInBounds_toArray, List.set_cons_zero, List.set_cons_succ])
      refine wpAnyH_done (by kernel_rfl) ?_ _
      refine NoPanic.normal ?_
      have k18 := K18.out _ _ R3
      have HF := hidI (FIN.out U3 w2 g c' g1 HZ g3 g4 R3 O3)
      clear g1 g3 g4 HZ O3 g2 R3 hHeld
      have K5 := K18
      (try clear HB SK SC SK3 HAP HOW FIN K18)
      go_wp2_with (first
        | (go_at_call 62; refine (HF.out).mono ?_; clear HF; rintro e5 w5 ⟨v5, rfl, ⟨r5, o5⟩, f5⟩; have R5 := hidI r5; have F5 := hidI f5; clear r5 f5 k18; have k18 := K5.out _ _ R5.out)
        | (refine wl_setU rfl 67 _ _ rfl p 18 v5 rfl rfl o5 infoErs _ _ tSc R5.out (by rw [List.length_set]; omega) rfl ?_; intro U6 R6 O6; have HG := hidI (F5.out U6 R6 O6); clear R6 O6 R5 F5))
      refine bodyPost_end (results_none rfl _ _ _) rfl ?_
      exact ⟨rfl, HG.out⟩
    exact AllReadyH.nil
end Go.Proofs.Ytebmgajijjhinaa

/- runErrand. -/
namespace Go.Proofs.Ytebmgajijjhinaa
open Go.RowKit Go.Maps
set_option linter.unusedVariables false
set_option linter.unusedSimpArgs false

/-- a scout behind a call, and an errand in a block of its own -/
def RX (w : World) (p : Nat) (B : Nat → Prop) (W : World) (N : Nat) (s : SO.Sc) (g : Nat) (C : Array Value) (U : World) : Prop := ∃ B', SC w p B' N s U ∧ OS B B' W U ∧ ¬ B' g ∧ (w.heap.size ≤ g ∧ W.heap.size ≤ g) ∧ U.heap[g]? = some (.cells C tEr (0, 0))
theorem RX.sx {w W U : World} {p N g : Nat} {B : Nat → Prop} {s : SO.Sc} {C : Array Value} (h : RX w p B W N s g C U) : SX w p B W N s U := by
  obtain ⟨B', x, o, _⟩ := h
  exact ⟨B', x, o⟩
theorem RX.row {w W U : World} {p N g : Nat} {B : Nat → Prop} {s : SO.Sc} {C : Array Value} (h : RX w p B W N s g C U) : U.heap[g]? = some (.cells C tEr (0, 0)) := by
  obtain ⟨B', x, o, _, _, r⟩ := h
  exact r
theorem SX.boxE {w W U : World} {p N : Nat} {B : Nat → Prop} {s : SO.Sc} (h : SX w p B W N s U) (C : Array Value) : RX w p B W N s U.heap.size C (U.alloc (.cells C tEr)) := by
  obtain ⟨B', ⟨P, x⟩, o⟩ := h
  exact ⟨B', ⟨P, x.grow ((Bl.refl U).alloc _)⟩, o.trans (OS.of_bl ((Bl.refl U).alloc _)), fun hB => by have := (x.Bo _ hB).2; omega, ⟨x.bl.size, o.size⟩, heap_alloc_new _ _⟩
theorem RX.grow {w W U V : World} {p N g : Nat} {B : Nat → Prop} {s : SO.Sc} {C : Array Value} (h : RX w p B W N s g C U) (b : Bl U V) : RX w p B W N s g C V := by
  obtain ⟨B', ⟨P, x⟩, o, a, c, r⟩ := h
  exact ⟨B', ⟨P, x.grow b⟩, o.trans (OS.of_bl b), a, c, (b.block _ (lt_heap r)).trans r⟩
theorem RX.set {w W U : World} {p N g : Nat} {B : Nat → Prop} {s : SO.Sc} {C : Array Value} (h : RX w p B W N s g C U) (D : Array Value) : RX w p B W N s g D (U.setRow g D) := by
  obtain ⟨B', ⟨P, x⟩, o, a, c, r⟩ := h
  have o1 := of1_setRow U g D
  exact ⟨B', ⟨P, x.keep o1.size (o1.bl x.bl c.1) (fun k hk => o1.block k (x.Bo k hk).2 (fun e => a (e ▸ hk)))⟩, ⟨o1.os.trans o.os, o1.tape.trans o.tape, o1.output.trans o.output, Nat.le_trans o.size o1.size, fun k hk hn => (o1.block k (Nat.lt_of_lt_of_le hk o.size) (fun e => by have := c.2; omega)).trans (o.block k hk hn), o.own⟩, a, c, setRow_heap _ _ _ _ _ _ r⟩
theorem RX.step {w W U V : World} {p N M g : Nat} {B B' : Nat → Prop} {s t : SO.Sc} {C : Array Value} (x : SC w p B' N s U) (o : OS B B' W U) (a : ¬ B' g) (c : w.heap.size ≤ g ∧ W.heap.size ≤ g) (r : U.heap[g]? = some (.cells C tEr (0, 0))) (h : SX w p B' U M t V) : RX w p B W M t g C V := by
  obtain ⟨B'', y, o2⟩ := h
  refine ⟨B'', y, o.trans o2, fun hB => ?_, c, (o2.block _ (lt_heap r) a).trans r⟩
  rcases o2.own g hB with h | h
  · exact a h
  · have := lt_heap r; omega
theorem RX.next {w W U : World} {p N g : Nat} {B : Nat → Prop} {s : SO.Sc} {C : Array Value} (h : RX w p B W N s g C U) (hN : N ≤ 100000000000) : Calls Try.prog 32 #[.pointer (some ⟨p, 0, none⟩)] U fun e w' => e = .returned (.int .i64 (s.seq + 1)) ∧ RX w p B W (N + 1) { s with seq := s.seq + 1 } g C w' := by
  obtain ⟨B', ⟨P, x⟩, o, a, c, r⟩ := h
  exact (nextSeq_sx (SX.refl ⟨P, x⟩) hN).mono fun e w' ⟨h1, h2⟩ => ⟨h1, RX.step ⟨P, x⟩ o a c r h2⟩
theorem RX.add {w W U : World} {p N g : Nat} {B : Nat → Prop} {s : SO.Sc} {C : Array Value} (h : RX w p B W N s g C U) (e : SO.Er) : Calls Try.prog 44 #[.pointer (some ⟨p, 18, none⟩), .agg (erV e)] U fun e' w' => e' = .returned (.tuple #[]) ∧ RX w p B W N { s with er := SO.addE s.er e } g C w' := by
  obtain ⟨B', ⟨P, x⟩, o, a, c, r⟩ := h
  exact (add_x x e).mono fun e w' ⟨h1, h2⟩ => ⟨h1, RX.step ⟨P, x⟩ o a c r h2⟩
theorem build109 (sq nd fr ak : Int) : Try.prog.built 98 [(0, .int .i64 sq), (1, .int .i64 nd), (2, .int .i64 fr), (3, .int .i64 ak)] = some (erV ⟨sq, nd, fr, ak, false⟩) := by kernel_rfl
/-- the frame in its box stays -/
theorem boxS {w W : World} {p N : Nat} {P : Pl} {B : Nat → Prop} {s : SO.Sc} (x : S0 w p P B N s W) (FL : List Value) (f : SO.Fr) (a : Option Addr) (c : Nat) (hf : FrC FL f a c) : ∀ N s U, SX w p B (W.alloc (.cells FL.toArray tFr)) N s U → U.cell? ⟨W.heap.size, 1, none⟩ = some (.int .i64 f.frm) ∧ U.cell? ⟨W.heap.size, 2, none⟩ = some (.int .i64 f.seq) ∧ U.cell? ⟨W.heap.size, 3, none⟩ = some (.int .i64 f.node) := fun N s U h => by
  have hbx : (W.alloc (.cells FL.toArray tFr)).heap[W.heap.size]? = some (.cells FL.toArray tFr (0, 0)) := heap_alloc_new _ _
  have hnb : ¬ B W.heap.size := fun h => by have := (x.Bo _ h).2; omega
  obtain ⟨B', _, o⟩ := h
  have b := (o.block _ (lt_heap hbx) hnb).trans hbx
  exact ⟨cellL b hf.k1, cellL b hf.k2, cellL b hf.k3⟩
set_option maxRecDepth 8000 in
set_option maxHeartbeats 8000000 in
theorem runErrand_x {w W : World} {p : Nat} {P : Pl} {B : Nat → Prop} {N : Nat} {s : SO.Sc} (x : S0 w p P B N s W) (hN : N ≤ 100000000000) (FL : List Value) (f : SO.Fr) (a : Option Addr) (c : Nat) (hf : FrC FL f a c) :
    Calls Try.prog 25 #[.pointer (some ⟨p, 0, none⟩), .agg FL.toArray] W fun e w' => Ans w p B W (N + 1) (SO.errand s f).1 (SO.errand s f).2 e w' := by
  have hb0 : Bl W (W.alloc (.cells FL.toArray tFr)) := (Bl.refl W).alloc _
  have HK := hidI (boxS x FL f a c hf)
  have H0 : Hid (SX w p B (W.alloc (.cells FL.toArray tFr)) N s (W.alloc (.cells FL.toArray tFr))) := SX.refl ⟨P, x.grow hb0⟩
  have HFIN : Hid (∀ M t fs e w', M ≤ N + 1 → Ans w p B (W.alloc (.cells FL.toArray tFr)) M t fs e w' → Ans w p B W (N + 1) t fs e w') := fun M t fs e w' hM h => (Ans.from (OS.of_bl hb0) h).more hM
  have C1 : Hid (∀ U, SX w p B (W.alloc (.cells FL.toArray tFr)) N s U → Calls Try.prog 19 #[.pointer (some ⟨p, 0, none⟩), .int .i64 f.node] U fun e w' => e = .returned (.bool (SO.other s f.node)) ∧ SX w p B (W.alloc (.cells FL.toArray tFr)) N s w' ∧ w'.cell? ⟨W.heap.size, 1, none⟩ = some (.int .i64 f.frm) ∧ w'.cell? ⟨W.heap.size, 3, none⟩ = some (.int .i64 f.node)) := fun U h => (isOther_sx h _).mono fun e w' ⟨h1, h2⟩ => ⟨h1, h2, (HK.out _ _ _ h2).1, (HK.out _ _ _ h2).2.2⟩
  have HH : Hid (SO.errand s f = if (SO.other s f.node && !(f.node == f.frm)) = true then (SO.tellS { s with seq := s.seq + 1, er := SO.addE s.er ⟨s.seq + 1, f.node, f.frm, f.seq, false⟩ } [SO.ping f.node (s.seq + 1)], SO.tellL { s with seq := s.seq + 1, er := SO.addE s.er ⟨s.seq + 1, f.node, f.frm, f.seq, false⟩ } [SO.ping f.node (s.seq + 1)]) else (s, [])) := rfl
  have q1 : FL[3]? = some (.int .i64 f.node) := hf.k3
  have q2 : FL.toArray[3]? = some (.int .i64 f.node) := by simpa using hf.k3
  have q3 : (W.alloc (.cells FL.toArray tFr)).cell? ⟨W.heap.size, 3, none⟩ = some (.int .i64 f.node) := (HK.out N s _ H0.out).2.2
  clear hf x hb0
  cases ho : SO.other s f.node with
  | false =>
    rw [ho] at C1 HH
    have HE : Hid ((SO.errand s f).1 = s ∧ (SO.errand s f).2 = []) := by show _ ∧ _; rw [HH.out]; exact ⟨rfl, rfl⟩
    rw [HE.out.1, HE.out.2]
    clear HH HE ho
    go_enter Try.func25, Try.ntmps25
    go_wp2_with (go_at_call 19; refine (C1.out _ H0.out).mono ?_; clear C1 H0; rintro e w1 ⟨rfl, h1, _, _⟩; have H1 := hidI h1; clear h1)
    go_ret
    exact HFIN.out N s [] _ _ (by omega) (ans_none H1.out)
  | true =>
    rw [ho] at C1 HH
    obtain ⟨zz, hzz⟩ : ∃ zz, (f.node == f.frm) = zz := ⟨_, rfl⟩
    rw [hzz] at HH
    cases zz with
    | true =>
      have HE : Hid ((SO.errand s f).1 = s ∧ (SO.errand s f).2 = []) := by show _ ∧ _; rw [HH.out]; exact ⟨rfl, rfl⟩
      rw [HE.out.1, HE.out.2]
      clear HH HE ho
      go_enter Try.func25, Try.ntmps25
      go_wp2_with (go_at_call 19; refine (C1.out _ H0.out).mono ?_; clear C1 H0; rintro e w1 ⟨rfl, h1, k1, k3⟩; have H1 := hidI h1; clear h1)
      go_ret
      exact HFIN.out N s [] _ _ (by omega) (ans_none H1.out)
    | false =>
      obtain ⟨e0, he0⟩ : ∃ e0 : SO.Er, e0 = ⟨s.seq + 1, f.node, f.frm, f.seq, false⟩ := ⟨_, rfl⟩
      obtain ⟨s2, hs2⟩ : ∃ s2 : SO.Sc, s2 = { s with seq := s.seq + 1, er := SO.addE s.er e0 } := ⟨_, rfl⟩
      have HE : Hid (SO.errand s f = (SO.tellS s2 [SO.ping f.node (s.seq + 1)], SO.tellL s2 [SO.ping f.node (s.seq + 1)])) := by show _ = _; rw [HH.out, hs2, he0]; rfl
      have b9 : Try.prog.built 98 (#[(0, .int .i64 (s.seq + 1)), (1, .int .i64 f.node), (2, .int .i64 f.frm), (3, .int .i64 f.seq)] : Array (Nat × Value)).toList = some (erV e0) := by rw [he0]; exact build109 _ _ _ _
      have CN : Hid (∀ U, SX w p B (W.alloc (.cells FL.toArray tFr)) N s U → Calls Try.prog 32 #[.pointer (some ⟨p, 0, none⟩)] U fun e w' => e = .returned (.int .i64 (s.seq + 1)) ∧ SX w p B (W.alloc (.cells FL.toArray tFr)) (N + 1) { s with seq := s.seq + 1 } w') := fun U h => nextSeq_sx h hN
      have CNR : Hid (∀ g C U, RX w p B (W.alloc (.cells FL.toArray tFr)) N s g C U → Calls Try.prog 32 #[.pointer (some ⟨p, 0, none⟩)] U fun e w' => e = .returned (.int .i64 (s.seq + 1)) ∧ RX w p B (W.alloc (.cells FL.toArray tFr)) (N + 1) { s with seq := s.seq + 1 } g C w') := fun g C U h => h.next hN
      have CAD : Hid (∀ g U, RX w p B (W.alloc (.cells FL.toArray tFr)) (N + 1) { s with seq := s.seq + 1 } g (erV e0) U → Calls Try.prog 44 #[.pointer (some ⟨p, 18, none⟩), .agg (erV e0)] U fun e' w' => e' = .returned (.tuple #[]) ∧ RX w p B (W.alloc (.cells FL.toArray tFr)) (N + 1) s2 g (erV e0) w') := fun g U h => by rw [hs2]; exact h.add e0
      have CP : Hid (∀ U, SX w p B (W.alloc (.cells FL.toArray tFr)) (N + 1) s2 U → Calls Try.prog 33 #[.int .i64 f.node, .int .i64 (s.seq + 1)] U fun e w' => e = .returned (.agg (snL f.node 1 0 (s.seq + 1) 0 zM nilV).toArray) ∧ SX w p B (W.alloc (.cells FL.toArray tFr)) (N + 1) s2 w') := fun U h => ping_sx h _ _
      have CT : Hid (∀ U V, SX w p B (W.alloc (.cells FL.toArray tFr)) (N + 1) s2 U → V = U.alloc (.cells (snL f.node 1 0 (s.seq + 1) 0 zM nilV).toArray tSn) → Calls Try.prog 23 #[.pointer (some ⟨p, 0, none⟩), .slice (some ⟨U.heap.size, 0, none⟩) 1 1] V fun e w' => Ans w p B (W.alloc (.cells FL.toArray tFr)) (N + 1) (SO.tellS s2 [SO.ping f.node (s.seq + 1)]) (SO.tellL s2 [SO.ping f.node (s.seq + 1)]) e w') := fun U V h hV => tell1_sx h (SO.ping f.node (s.seq + 1)) _ rfl V hV
      have hL : (snL f.node 1 0 (s.seq + 1) 0 zM nilV).length = 238 := snL_len zM_len
      have HFN := hidI (fun e w' => HFIN.out (N + 1) (SO.tellS s2 [SO.ping f.node (s.seq + 1)]) (SO.tellL s2 [SO.ping f.node (s.seq + 1)]) e w' (Nat.le_refl _))
      have HES : Hid ((SO.errand s f).1 = SO.tellS s2 [SO.ping f.node (s.seq + 1)] ∧ (SO.errand s f).2 = SO.tellL s2 [SO.ping f.node (s.seq + 1)]) := by show _ ∧ _; rw [HE.out]; exact ⟨rfl, rfl⟩
      rw [HES.out.1, HES.out.2]
      obtain ⟨s1, hs1⟩ : ∃ s1 : SO.Sc, ({ s with seq := s.seq + 1 } : SO.Sc) = s1 := ⟨_, rfl⟩
      rw [hs1] at CN CNR CAD
      have HCE : Hid (erV e0 = #[.int .i64 (s.seq + 1), .int .i64 f.node, .int .i64 f.frm, .int .i64 f.seq, .bool false]) := by show _ = _; rw [he0]; rfl
      rw [HCE.out] at CAD b9
      obtain ⟨z, hz1, hz2⟩ := infoSn3
      clear HH HE HES hs2 hs1 HFIN he0 HCE ho
      generalize SO.tellS s2 [SO.ping f.node (s.seq + 1)] = R1 at *
      generalize SO.tellL s2 [SO.ping f.node (s.seq + 1)] = R2 at *
      generalize snL f.node 1 0 (s.seq + 1) 0 zM nilV = L at *
      go_enter Try.func25, Try.ntmps25
      go_wp2_with (go_at_call 19; refine (C1.out _ H0.out).mono ?_; clear C1 H0 q1 q2 q3; rintro e w1 ⟨rfl, h1, k1, k3⟩; have H1 := hidI h1; clear h1)
      clear k1 k3
      generalize W.alloc (.cells FL.toArray tFr) = W1 at *
      generalize W.heap.size = fb at *
      have SK : Hid (∀ N s U, SX w p B W1 N s U → U.cell? ⟨fb, 1, none⟩ = some (.int .i64 f.frm) ∧ U.cell? ⟨fb, 2, none⟩ = some (.int .i64 f.seq) ∧ U.cell? ⟨fb, 3, none⟩ = some (.int .i64 f.node)) := HK.out
      have HB : SX w p B W1 N s w1 := H1.out
      clear HK H1
      generalize f.node = node at *
      generalize f.frm = frm at *
      generalize f.seq = seq at *
      generalize hq1 : s.seq + 1 = sq1 at *
      clear hq1
      refine wp_region_noPanic ?_
      refine wp_region_held_drew (S := fun U => U.cell? ⟨fb, 1, none⟩ = some (.int .i64 frm) ∧ U.cell? ⟨fb, 2, none⟩ = some (.int .i64 seq) ∧ U.cell? ⟨fb, 3, none⟩ = some (.int .i64 node)) (by kernel_rfl) ((by first | exact SK.out _ _ _ (HB.drewN 1) | exact SK.out _ _ _ ((HB.drewN 1)).sx)) (fun hHeld => ?_)
      refine wpAnyH_take (i := 0) rfl (by kernel_rfl) (by kernel_rfl) (by kernel_rfl) (fun _ _ _ h => h) (yi_move (by kernel_rfl) rfl rfl) (by assumption) ?_
      simp only [Act.put, List.getElem_toArray, List.getElem_cons_succ, List.getElem_cons_zero, List.setIfInBounds_toArray, List.set_cons_zero, List.set_cons_succ]
      refine wpAnyH_take (i := 2) (v := ?_) rfl (by kernel_rfl) (by kernel_rfl) (by kernel_rfl) (fun _ _ _ h => h) (Or.inl ⟨by kernel_rfl, ?_⟩) (by assumption) ?_
      rotate_left
      · (intro w hSw; (try dsimp only at hSw); go_simp; (try with_reducible rfl))
      simp only [Act.put, List.getElem_toArray, List.getElem_cons_succ, List.getElem_cons_zero, List.setIfInBounds_toArray, List.set_cons_zero, List.set_cons_succ]
      refine wpAnyH_take (i := 3) (v := ?_) rfl (by kernel_rfl) (by kernel_rfl) (by kernel_rfl) (fun _ _ _ h => h) (Or.inl ⟨by kernel_rfl, ?_⟩) (by assumption) ?_
      rotate_left
      · (intro w hSw; obtain ⟨e1, e2, e3⟩ := hSw; go_simp; (try with_reducible rfl))
      simp only [Act.put, List.getElem_toArray, List.getElem_cons_succ, List.getElem_cons_zero, List.setIfInBounds_toArray, List.set_cons_zero, List.set_cons_succ]
      refine wpAnyH_take (i := 4) (v := ?_) rfl (by kernel_rfl) (by kernel_rfl) (by kernel_rfl) (fun _ _ _ h => h) (Or.inl ⟨by kernel_rfl, ?_⟩) (by assumption) ?_
      rotate_left
      · (intro w hSw; (try dsimp only at hSw); go_simp; (try with_reducible rfl))
      simp only [Act.put, List.getElem_toArray, List.getElem_cons_succ, List.getElem_cons_zero, List.setIfInBounds_toArray, List.set_cons_zero, List.set_cons_succ]
      refine wpAnyH_take (i := 5) (v := ?_) rfl (by kernel_rfl) (by kernel_rfl) (by kernel_rfl) (fun _ _ _ h => h) (Or.inl ⟨by kernel_rfl, ?_⟩) (by assumption) ?_
      rotate_left
      · (intro w hSw; obtain ⟨e1, e2, e3⟩ := hSw; go_simp; (try with_reducible rfl))
      simp only [Act.put, List.getElem_toArray, List.getElem_cons_succ, List.getElem_cons_zero, List.setIfInBounds_toArray, List.set_cons_zero, List.set_cons_succ]
      refine wpAnyH_take (i := 6) (v := ?_) rfl (by kernel_rfl) (by kernel_rfl) (by kernel_rfl) (fun _ _ _ h => h) (Or.inl ⟨by kernel_rfl, ?_⟩) (by assumption) ?_
      rotate_left
      · (intro w hSw; (try dsimp only at hSw); go_simp; (try with_reducible rfl))
      simp only [Act.put, List.getElem_toArray, List.getElem_cons_succ, List.getElem_cons_zero, List.setIfInBounds_toArray, List.set_cons_zero, List.set_cons_succ]
      refine wpAnyH_take (i := 7) (v := ?_) rfl (by kernel_rfl) (by kernel_rfl) (by kernel_rfl) (fun _ _ _ h => h) (Or.inl ⟨by kernel_rfl, ?_⟩) (by assumption) ?_
      rotate_left
      · (intro w hSw; obtain ⟨e1, e2, e3⟩ := hSw; go_simp; (try with_reducible rfl))
      simp only [Act.put, List.getElem_toArray, List.getElem_cons_succ, List.getElem_cons_zero, List.setIfInBounds_toArray, List.set_cons_zero, List.set_cons_succ]
      refine wpAnyH_ready (rs := [1, 9]) (by kernel_rfl) (by simp) ?_
      refine AllReadyH.cons (o := _) rfl (fun K hK => ?_) ?_
      · go_simp
        go_at_call 32; (first | (refine (CN.out _ (HB.drewN 1)).mono ?_) | (refine (CNR.out _ _ _ (HB.drewN 1)).mono ?_)); rintro e V8 ⟨rfl, HB8⟩
        refine hK.out _ _ ((by first | exact SK.out _ _ _ HB8 | exact SK.out _ _ _ (HB8).sx)) (fun hHeld => ?_)
        clear hK K
        (try simp only [Act.put, List.getElem_toArray, List.getElem_cons_succ, List.getElem_cons_zero, List.setIfInBounds_toArray, List.set_cons_zero, List.set_cons_succ])
        refine wpAnyH_take (i := 8) (v := .agg #[.int .i64 sq1, .int .i64 node, .int .i64 frm, .int .i64 seq, .bool false]) rfl (by kernel_rfl) (by kernel_rfl) (by kernel_rfl) (fun _ _ _ h => h) (yi_buildS (by kernel_rfl) rfl #[(0, .int .i64 sq1), (1, .int .i64 node), (2, .int .i64 frm), (3, .int .i64 seq)] (by rfl) (fun w => run_build w _ _ _ b9)) (by assumption) ?_
        simp only [Act.put, List.getElem_toArray, List.getElem_cons_succ, List.getElem_cons_zero, List.setIfInBounds_toArray, List.set_cons_zero, List.set_cons_succ]
        refine wpAnyH_ready (rs := [9]) (by kernel_rfl) (by simp) ?_
        refine AllReadyH.cons (o := _) rfl (fun K hK => ?_) AllReadyH.nil
        go_simp
        refine hK.out _ _ ((by first | exact SK.out _ _ _ (SX.boxE HB8 #[.int .i64 0, .int .i64 0, .int .i64 0, .int .i64 0, .bool false]) | exact SK.out _ _ _ ((SX.boxE HB8 #[.int .i64 0, .int .i64 0, .int .i64 0, .int .i64 0, .bool false])).sx)) (fun hHeld => ?_)
        clear hK K
        (try simp only [Act.put, List.getElem_toArray, List.getElem_cons_succ, List.getElem_cons_zero, List.setIfInBounds_toArray, List.set_cons_zero, List.set_cons_succ])
        refine wpAnyH_ready (rs := [10]) (by kernel_rfl) (by simp) ?_
        refine AllReadyH.cons (o := _) rfl (fun K hK => ?_) AllReadyH.nil
        refine stepo_storeR rfl tEr _ _ rfl _ #[.int .i64 sq1, .int .i64 node, .int .i64 frm, .int .i64 seq, .bool false] (by rfl) (by rfl) tEr _ ((SX.boxE HB8 #[.int .i64 0, .int .i64 0, .int .i64 0, .int .i64 0, .bool false])).row infoEr rfl (by simp [Value.oneCell']) (hK.out _ _ ((by first | exact SK.out _ _ _ (((SX.boxE HB8 #[.int .i64 0, .int .i64 0, .int .i64 0, .int .i64 0, .bool false])).set #[.int .i64 sq1, .int .i64 node, .int .i64 frm, .int .i64 seq, .bool false]) | exact SK.out _ _ _ ((((SX.boxE HB8 #[.int .i64 0, .int .i64 0, .int .i64 0, .int .i64 0, .bool false])).set #[.int .i64 sq1, .int .i64 node, .int .i64 frm, .int .i64 seq, .bool false])).sx)) (fun hHeld => ?_))
        clear hK K
        (try simp only [Act.put, List.getElem_toArray, List.getElem_cons_succ, List.getElem_cons_zero, List.setIfInBounds_toArray, List.set_cons_zero, List.set_cons_succ])
        refine wpAnyH_done (by kernel_rfl) ?_ _
        refine NoPanic.normal ?_
        first | (have HR0 : Hid (RX w p B W1 (N + 1) s1 w1.heap.size #[.int .i64 sq1, .int .i64 node, .int .i64 frm, .int .i64 seq, .bool false] _) := (((SX.boxE HB8 #[.int .i64 0, .int .i64 0, .int .i64 0, .int .i64 0, .bool false])).set #[.int .i64 sq1, .int .i64 node, .int .i64 frm, .int .i64 seq, .bool false])) | (have HR0 := hidI ((((SX.boxE HB8 #[.int .i64 0, .int .i64 0, .int .i64 0, .int .i64 0, .bool false])).set #[.int .i64 sq1, .int .i64 node, .int .i64 frm, .int .i64 seq, .bool false])))
        obtain ⟨U, hU, HR1⟩ : ∃ U', U' = _ ∧ Hid (RX w p B W1 (N + 1) s1 _ #[.int .i64 sq1, .int .i64 node, .int .i64 frm, .int .i64 seq, .bool false] U') := ⟨_, rfl, HR0⟩
        rw [← hU]
        obtain ⟨g, hg, HR⟩ : ∃ g', g' = _ ∧ Hid (RX w p B W1 (N + 1) s1 g' #[.int .i64 sq1, .int .i64 node, .int .i64 frm, .int .i64 seq, .bool false] U) := ⟨_, rfl, HR1⟩
        rw [← hg]
        clear hHeld HR0 HR1 hU hg
        have HD := hidI (HR.out.grow ((Bl.refl U).drew))
        have r4 := HD.out.row
        have k0 : U.drew.cell? ⟨g, 0, none⟩ = some (.int .i64 sq1) := (by rw [Lib.cell_of_heap r4]; rfl)
        have k1 : U.drew.cell? ⟨g, 1, none⟩ = some (.int .i64 node) := (by rw [Lib.cell_of_heap r4]; rfl)
        have k2 : U.drew.cell? ⟨g, 2, none⟩ = some (.int .i64 frm) := (by rw [Lib.cell_of_heap r4]; rfl)
        have k3 : U.drew.cell? ⟨g, 3, none⟩ = some (.int .i64 seq) := (by rw [Lib.cell_of_heap r4]; rfl)
        have k4 : U.drew.cell? ⟨g, 4, none⟩ = some (.bool false) := (by rw [Lib.cell_of_heap r4]; rfl)
        clear r4
        go_wp2_with fail
        go_region_with (go_at_call 44; refine (CAD.out _ _ HD.out).mono ?_; rintro e w6 ⟨rfl, h6⟩; have H6 := hidI h6; clear h6)
        clear k0 k1 k2 k3 k4
        have r5 := H6.out.row
        have k0 : w6.cell? ⟨g, 0, none⟩ = some (.int .i64 sq1) := (by rw [Lib.cell_of_heap r5]; rfl)
        have k1 : w6.cell? ⟨g, 1, none⟩ = some (.int .i64 node) := (by rw [Lib.cell_of_heap r5]; rfl)
        clear r5
        go_wp2_with (first
          | (go_at_call 33; refine (CP.out _ H6.out.sx).mono ?_; clear CP; rintro e w7 ⟨rfl, h7⟩; have HX := hidI h7; clear h7)
          | (refine wl_bs1 rfl 28 tSn _ rfl L 238 408 (.agg z) undSs hz1 hL (by omega) (by omega) rfl ?_)
          | (go_at_call 23; refine (CT.out _ _ HX.out rfl).mono ?_; clear HX; rintro e w8 h8; obtain ⟨a7, c7, ys7, B7, he, h9⟩ := id h8; subst he; clear h9; have H8 := hidI h8; clear h8))
        go_ret
        exact HFN.out _ _ H8.out
      refine AllReadyH.cons (o := _) rfl (fun K hK => ?_) ?_
      · go_simp
        refine hK.out _ _ ((by first | exact SK.out _ _ _ (SX.boxE (HB.drewN 1) #[.int .i64 0, .int .i64 0, .int .i64 0, .int .i64 0, .bool false]) | exact SK.out _ _ _ ((SX.boxE (HB.drewN 1) #[.int .i64 0, .int .i64 0, .int .i64 0, .int .i64 0, .bool false])).sx)) (fun hHeld => ?_)
        clear hK K
        (try simp only [Act.put, List.getElem_toArray, List.getElem_cons_succ, List.getElem_cons_zero, List.setIfInBounds_toArray, List.set_cons_zero, List.set_cons_succ])
        refine wpAnyH_ready (rs := [1]) (by kernel_rfl) (by simp) ?_
        refine AllReadyH.cons (o := _) rfl (fun K hK => ?_) AllReadyH.nil
        go_simp
        go_at_call 32; (first | (refine (CN.out _ (SX.boxE (HB.drewN 1) #[.int .i64 0, .int .i64 0, .int .i64 0, .int .i64 0, .bool false])).mono ?_) | (refine (CNR.out _ _ _ (SX.boxE (HB.drewN 1) #[.int .i64 0, .int .i64 0, .int .i64 0, .int .i64 0, .bool false])).mono ?_)); rintro e V12 ⟨rfl, HB12⟩
        refine hK.out _ _ ((by first | exact SK.out _ _ _ HB12 | exact SK.out _ _ _ (HB12).sx)) (fun hHeld => ?_)
        clear hK K
        (try simp only [Act.put, List.getElem_toArray, List.getElem_cons_succ, List.getElem_cons_zero, List.setIfInBounds_toArray, List.set_cons_zero, List.set_cons_succ])
        refine wpAnyH_take (i := 8) (v := .agg #[.int .i64 sq1, .int .i64 node, .int .i64 frm, .int .i64 seq, .bool false]) rfl (by kernel_rfl) (by kernel_rfl) (by kernel_rfl) (fun _ _ _ h => h) (yi_buildS (by kernel_rfl) rfl #[(0, .int .i64 sq1), (1, .int .i64 node), (2, .int .i64 frm), (3, .int .i64 seq)] (by rfl) (fun w => run_build w _ _ _ b9)) (by assumption) ?_
        simp only [Act.put, List.getElem_toArray, List.getElem_cons_succ, List.getElem_cons_zero, List.setIfInBounds_toArray, List.set_cons_zero, List.set_cons_succ]
        refine wpAnyH_ready (rs := [10]) (by kernel_rfl) (by simp) ?_
        refine AllReadyH.cons (o := _) rfl (fun K hK => ?_) AllReadyH.nil
        refine stepo_storeR rfl tEr _ _ rfl _ #[.int .i64 sq1, .int .i64 node, .int .i64 frm, .int .i64 seq, .bool false] (by rfl) (by rfl) tEr _ (HB12).row infoEr rfl (by simp [Value.oneCell']) (hK.out _ _ ((by first | exact SK.out _ _ _ ((HB12).set #[.int .i64 sq1, .int .i64 node, .int .i64 frm, .int .i64 seq, .bool false]) | exact SK.out _ _ _ (((HB12).set #[.int .i64 sq1, .int .i64 node, .int .i64 frm, .int .i64 seq, .bool false])).sx)) (fun hHeld => ?_))
        clear hK K
        (try simp only [Act.put, List.getElem_toArray, List.getElem_cons_succ, List.getElem_cons_zero, List.setIfInBounds_toArray, List.set_cons_zero, List.set_cons_succ])
        refine wpAnyH_done (by kernel_rfl) ?_ _
        refine NoPanic.normal ?_
        first | (have HR0 : Hid (RX w p B W1 (N + 1) s1 w1.heap.size #[.int .i64 sq1, .int .i64 node, .int .i64 frm, .int .i64 seq, .bool false] _) := ((HB12).set #[.int .i64 sq1, .int .i64 node, .int .i64 frm, .int .i64 seq, .bool false])) | (have HR0 := hidI (((HB12).set #[.int .i64 sq1, .int .i64 node, .int .i64 frm, .int .i64 seq, .bool false])))
        obtain ⟨U, hU, HR1⟩ : ∃ U', U' = _ ∧ Hid (RX w p B W1 (N + 1) s1 _ #[.int .i64 sq1, .int .i64 node, .int .i64 frm, .int .i64 seq, .bool false] U') := ⟨_, rfl, HR0⟩
        rw [← hU]
        obtain ⟨g, hg, HR⟩ : ∃ g', g' = _ ∧ Hid (RX w p B W1 (N + 1) s1 g' #[.int .i64 sq1, .int .i64 node, .int .i64 frm, .int .i64 seq, .bool false] U) := ⟨_, rfl, HR1⟩
        rw [← hg]
        clear hHeld HR0 HR1 hU hg
        have HD := hidI (HR.out.grow ((Bl.refl U).drew))
        have r4 := HD.out.row
        have k0 : U.drew.cell? ⟨g, 0, none⟩ = some (.int .i64 sq1) := (by rw [Lib.cell_of_heap r4]; rfl)
        have k1 : U.drew.cell? ⟨g, 1, none⟩ = some (.int .i64 node) := (by rw [Lib.cell_of_heap r4]; rfl)
        have k2 : U.drew.cell? ⟨g, 2, none⟩ = some (.int .i64 frm) := (by rw [Lib.cell_of_heap r4]; rfl)
        have k3 : U.drew.cell? ⟨g, 3, none⟩ = some (.int .i64 seq) := (by rw [Lib.cell_of_heap r4]; rfl)
        have k4 : U.drew.cell? ⟨g, 4, none⟩ = some (.bool false) := (by rw [Lib.cell_of_heap r4]; rfl)
        clear r4
        go_wp2_with fail
        go_region_with (go_at_call 44; refine (CAD.out _ _ HD.out).mono ?_; rintro e w6 ⟨rfl, h6⟩; have H6 := hidI h6; clear h6)
        clear k0 k1 k2 k3 k4
        have r5 := H6.out.row
        have k0 : w6.cell? ⟨g, 0, none⟩ = some (.int .i64 sq1) := (by rw [Lib.cell_of_heap r5]; rfl)
        have k1 : w6.cell? ⟨g, 1, none⟩ = some (.int .i64 node) := (by rw [Lib.cell_of_heap r5]; rfl)
        clear r5
        go_wp2_with (first
          | (go_at_call 33; refine (CP.out _ H6.out.sx).mono ?_; clear CP; rintro e w7 ⟨rfl, h7⟩; have HX := hidI h7; clear h7)
          | (refine wl_bs1 rfl 28 tSn _ rfl L 238 408 (.agg z) undSs hz1 hL (by omega) (by omega) rfl ?_)
          | (go_at_call 23; refine (CT.out _ _ HX.out rfl).mono ?_; clear HX; rintro e w8 h8; obtain ⟨a7, c7, ys7, B7, he, h9⟩ := id h8; subst he; clear h9; have H8 := hidI h8; clear h8))
        go_ret
        exact HFN.out _ _ H8.out
      exact AllReadyH.nil
end Go.Proofs.Ytebmgajijjhinaa

/- A law's scout: all that it may do. -/
namespace Go.Proofs.Ytebmgajijjhinaa
open Go.RowKit Go.Maps
set_option linter.unusedVariables false
set_option linter.unusedSimpArgs false

set_option maxRecDepth 8000 in
theorem All_go {W : World} {v : Value} {f : K.Vw} (C : GetC W v f) :
    Calls Try.prog 27 #[v] W fun e w' => ∃ a c, e = .returned (.slice a (K.all f).length c) ∧ (RS lyM w' a (K.all f) ∧ ∀ g off, a = some ⟨g, off, none⟩ → W.heap.size ≤ g) ∧ Bl W w' := by
  have CG : Hid (GetC W v f) := C
  clear C
  go_enter Try.func27, Try.ntmps27
  go_wp2_with fail
  go_loopw [3, 4] (fun u3 u4 wr => ∃ k : Nat, k ≤ 6 ∧ u4 = .int .i64 ((k : Int) + 1) ∧ Bl W wr ∧ wr.ownsRow W.heap.size 54 3 u3 (K.allN f k).length (flG lyM (K.allN f k))) (fun _ u4 _ => 7 - (intOf u4).toNat)
  case atStart => exact ⟨0, by omega, rfl, Bl.refl _, ⟨rfl, Or.inl ⟨rfl, rfl⟩⟩⟩
  case round =>
    obtain ⟨k, hk, rfl, HB, ho⟩ := hrel
    by_cases hlt : k < 6
    · have HS : Hid (K.allN f (k + 1) = K.allN f k ++ (f ((k : Int) + 1)).toList) := K.allN_succ f k
      have hal := K.allN_len f k
      have C1 : Hid (Calls Try.prog 37 #[v, .int .i64 ((k : Int) + 1)] wr fun e w' => e = .returned (.tuple #[.agg (meV (gv f ((k : Int) + 1))), .bool (f ((k : Int) + 1)).isSome]) ∧ Bl wr w') := (CG.out.up HB) _ wr (by constructor <;> omega) (Bl.refl _)
      have HO : Hid (wr.ownsRow W.heap.size 54 3 u3 (K.allN f k).length (flG lyM (K.allN f k))) := ho
      obtain ⟨L, hL⟩ : ∃ L, K.allN f k = L := ⟨_, rfl⟩
      rw [hL] at HS HO hal
      clear ho CG hL
      cases hfk : f ((k : Int) + 1) with
      | none =>
        have e0 : gv f ((k : Int) + 1) = (0, 0, 0) := by unfold gv; rw [hfk]; rfl
        rw [hfk] at C1 HS
        rw [e0] at C1
        clear hfk e0
        unfold meV at C1
        simp only [Option.isSome_none] at C1
        go_wp2_with (first
          | (go_at_call 37; refine (C1.out).mono ?_; clear C1; rintro e w' ⟨rfl, HB1⟩))
        go_roundw
        case rel => exact ⟨k + 1, by omega, by go_num, (HB.step HB1).alloc _, by rw [HS.out]; simpa using ownsRow_bl (ownsRow_bl HO.out HB1) ((Bl.refl _).alloc _)⟩
        case measure => simp [intOf]; omega
      | some m =>
        have e0 : gv f ((k : Int) + 1) = m := by unfold gv; rw [hfk]; rfl
        rw [hfk] at C1 HS
        rw [e0] at C1
        clear hfk e0
        obtain ⟨n, i, s⟩ := m
        unfold meV at C1
        simp only [Option.isSome_some] at C1
        go_wp2_with (first
          | (go_at_call 37; refine (C1.out).mono ?_; clear C1; rintro e w' ⟨rfl, HB1⟩; have HB2 : Hid (Bl W (w'.alloc (.cells #[.int .i64 n, .int .i64 i, .int .i64 s] 54))) := (HB.step HB1).alloc _; have HO2 : Hid ((w'.alloc (.cells #[.int .i64 n, .int .i64 i, .int .i64 s] 54)).ownsRow W.heap.size 54 3 u3 L.length (flG lyM L)) := ownsRow_bl (ownsRow_bl HO.out HB1) ((Bl.refl _).alloc _))
          | (refine wl_app1M lyM 54 46 (.agg #[.int .i64 0, .int .i64 0, .int .i64 0]) 24 undMs infoMe3 rfl (by decide) rfl _ _ rfl L.length L rfl (n, i, s) u3 rfl HB2.out HO2.out (w'.heap.size + 1) (by simp) rfl (by omega) ?_ _ rfl rfl; intro a' c' w2 g1 g2 g3))
        have z1 : w2.ownsRow W.heap.size 54 3 (.slice a' (L.length + 1) c') (K.allN f (k + 1)).length (flG lyM (K.allN f (k + 1))) := by
          have e : K.allN f (k + 1) = L ++ [(n, i, s)] := HS.out
          rw [e, List.length_append]; exact g1
        go_roundw
        case rel => exact ⟨k + 1, by omega, by go_num, g2, z1⟩
        case measure => simp [intOf]; omega
    · obtain rfl : k = 6 := by omega
      obtain ⟨a', c', rfl, h4⟩ := owns_rs lyM ho
      have HQ : Hid ((RS lyM wr a' (K.all f) ∧ ∀ g off, a' = some ⟨g, off, none⟩ → W.heap.size ≤ g) ∧ Bl W wr) := ⟨⟨h4, fun g off e => (owns_ge ho (by rw [e]; rfl)).1⟩, HB⟩
      clear ho h4 CG HB
      go_wp2_with fail
      go_ret
      exact ⟨a', c', rfl, HQ.out⟩
theorem All_xo {w W : World} {p : Nat} {P : Pl} {B : Nat → Prop} {N : Nat} {s : SO.Sc} (x : S0 w p P B N s W) :
    Calls Try.prog 8 #[.pointer (some ⟨p, 0, none⟩)] W fun e w' => ∃ a c, e = .returned (.slice a (K.all s.f).length c) ∧ (RS lyM w' a (K.all s.f) ∧ ∀ g off, a = some ⟨g, off, none⟩ → W.heap.size ≤ g) ∧ Bl W w' := by
  have c0 := x.c0
  have C1 : Hid (Calls Try.prog 27 #[.pointer (some ⟨P.q, 0, none⟩)] W fun e w' => ∃ a c, e = .returned (.slice a (K.all s.f).length c) ∧ (RS lyM w' a (K.all s.f) ∧ ∀ g off, a = some ⟨g, off, none⟩ → W.heap.size ≤ g) ∧ Bl W w') := All_go x.vt.getC
  generalize P.q = q at *
  generalize K.all s.f = l at *
  clear x
  go_enter Try.func8, Try.ntmps8
  go_wp2_with (go_at_call 27; refine (C1.out).mono ?_; clear C1; rintro e w1 ⟨a, c, rfl, hb⟩)
  go_ret
  exact ⟨a, c, rfl, hb⟩
theorem All_nil (W : World) : Calls Try.prog 8 #[.pointer none] W fun e w' => e = .returned (.slice none 0 0) ∧ w' = W := by
  go_enter Try.func8, Try.ntmps8
  go_wp2_with fail
  go_ret
  exact ⟨rfl, rfl⟩
theorem Present_nil (W : World) : Calls Try.prog 9 #[.pointer none] W fun e w' => e = .returned (.slice none 0 0) ∧ w' = W := by
  go_enter Try.func9, Try.ntmps9
  go_wp2_with fail
  go_ret
  exact ⟨rfl, rfl⟩
theorem Hear_y {w W : World} {p : Nat} {P : Pl} {B : Nat → Prop} {N : Nat} {s : SO.Sc} (x : S0 w p P B N s W) (hN : N ≤ 10000000000) (FL : List Value) (f : SO.Fr) (a : Option Addr) (c : Nat) (hf : FrC FL f a c) (hfr : i64 f.frm) (hr : RS lyM W a f.rum) (ha : ∀ g off, a = some ⟨g, off, none⟩ → f.rum ≠ [] → ¬ B g) (hi : ∀ m ∈ f.rum, i64 m.1 ∧ i64 m.2.1) (hl : f.rum.length ≤ 1000) :
    Calls Try.prog 7 #[.pointer (some ⟨p, 0, none⟩), .agg FL.toArray] W fun e w' => Ans w p B W (N + 2 * f.rum.length + 1) (SO.hear s f).1 (SO.hear s f).2 e w' :=
  Hear_x x hN FL f a c hf hfr hr ha hi hl (fun _ M t U hM h => by
    obtain ⟨B', ⟨P', X⟩, O⟩ := h
    exact (runErrand_x X (by omega) FL f a c hf).mono fun e w' h => Ans.from O h)
theorem All_ln {w U : World} {p N : Nat} {s : SO.Sc} {Z : World → Prop} (h : LW w p N s Z U) : Calls Try.prog 8 #[.pointer (some ⟨p, 0, none⟩)] U fun e w' => ∃ a c, e = .returned (.slice a (K.all s.f).length c) ∧ LW w p N s (fun V => Z V ∧ RS lyM V a (K.all s.f)) w' := by
  obtain ⟨B, ⟨P, x⟩, k⟩ := id h
  refine (All_xo x).mono ?_
  rintro e w' ⟨a, c, rfl, ⟨h1, h2⟩, h3⟩
  refine ⟨a, c, rfl, h.add h3 (fun V' hs hk i m hm => ?_)⟩
  obtain ⟨b, off, e1, e2, e3⟩ := h1 i m hm
  have e4 := hk b (h2 b off e1) e2
  exact ⟨b, off, e1, Nat.lt_of_lt_of_le e2 hs, fun j v hv => by rw [World.cell?_of_block e4]; exact e3 j v hv⟩
theorem Hear_ly {w U : World} {p N : Nat} {s : SO.Sc} {Z : World → Prop} (h : LW w p N s Z U) (hN : N ≤ 10000000000) (FL : List Value) (f : SO.Fr) (a : Option Addr) (c : Nat) (hf : FrC FL f a c) (hfr : i64 f.frm) (hr : RS lyM w a f.rum) (hi : ∀ m ∈ f.rum, i64 m.1 ∧ i64 m.2.1) (hl : f.rum.length ≤ 1000) :
    Calls Try.prog 7 #[.pointer (some ⟨p, 0, none⟩), .agg FL.toArray] U fun e w' => ∃ a c, e = .returned (.slice a (SO.hear s f).2.length c) ∧ LW w p (N + 2 * f.rum.length + 1) (SO.hear s f).1 Z w' := by
  obtain ⟨B, ⟨P, x⟩, k⟩ := h
  refine (Hear_y x hN FL f a c hf hfr (hr.bl x.bl) (fun g off e hne hB => ?_) hi hl).mono fun e w' h => ?_
  · obtain ⟨m, hm⟩ : ∃ m, f.rum[0]? = some m := by
      cases hrm : f.rum with
      | nil => exact absurd hrm hne
      | cons m r => exact ⟨m, rfl⟩
    obtain ⟨b, off', e1, e2, _⟩ := hr 0 m hm
    rw [e] at e1
    cases e1
    have := (x.Bo _ hB).1
    omega
  · obtain ⟨a, c, h1, h2⟩ := Ans.lw ⟨P, x⟩ k h
    exact ⟨a, c, h1, h2.weak fun V h => h.1⟩
end Go.Proofs.Ytebmgajijjhinaa

/- The law's first look. -/
namespace Go.Proofs.Ytebmgajijjhinaa
open Go.RowKit Go.Maps
set_option linter.unusedVariables false
set_option linter.unusedSimpArgs false

theorem build56c (k fr sq : Int) (rv : Value) (hr : ∃ a n c, rv = .slice a n c) : Try.prog.built 48 [(0, .int .i64 k), (1, .int .i64 fr), (2, .int .i64 sq), (14, rv)] = some (frL k fr sq 0 zM rv).toArray := by
  obtain ⟨a, n, c, rfl⟩ := hr
  kernel_rfl
theorem build56d (k fr sq nd : Int) : Try.prog.built 48 [(0, .int .i64 k), (1, .int .i64 fr), (2, .int .i64 sq), (3, .int .i64 nd)] = some (frL k fr sq nd zM nilV).toArray := by kernel_rfl
theorem frL_one {k fr sq nd : Int} {M : List Value} {rv : Value} (h : ∀ v ∈ M, v.oneCell' = true) (hr : rv.oneCell' = true) : ∀ v ∈ frL k fr sq nd M rv, v.oneCell' = true := fun v hv => snL_one (tt := 0) h hr v (List.mem_cons_of_mem _ hv)
theorem frC (dst k fr sq nd : Int) (a : Option Addr) (c : Nat) (rm : List K.Me) : FrC (frL k fr sq nd zM (.slice a rm.length c)) ⟨dst, k, fr, sq, nd, rm⟩ a c := by
  refine ⟨frL_len zM_len, frL_one zM_one rfl, rfl, rfl, rfl, rfl, ?_⟩
  unfold frL
  rw [List.getElem?_append_right (by simp), List.getElem?_append_right (by simp [zM_len])]
  simp [zM_len]
theorem look_one {l : List SO.Fr} {d k f s n : Int} (h : l.map SO.look = [(d, k, f, s, n)]) : l.length = 1 ∧ ∃ y, l[0]? = some y ∧ y.dst = d ∧ y.kind = k ∧ y.frm = f ∧ y.seq = s ∧ y.node = n := by
  have hl : l.length = 1 := by have := congrArg List.length h; simpa using this
  obtain ⟨y, rfl⟩ := List.length_eq_one_iff.1 hl
  simp only [List.map_cons, List.map_nil, List.cons.injEq, and_true, SO.look, Prod.mk.injEq] at h
  exact ⟨rfl, y, rfl, h⟩
theorem build38x (n st : Int) : Try.prog.built 54 [(0, .int .i64 n), (2, .int .i64 st)] = some (meV (n, 0, st)) := by kernel_rfl
theorem build38y (n i : Int) : Try.prog.built 54 [(0, .int .i64 n), (1, .int .i64 i)] = some (meV (n, i, 0)) := by kernel_rfl
set_option maxRecDepth 8000 in
set_option maxHeartbeats 8000000 in
theorem awake_12 {w W : World} (hb : Bl w W) : Calls Try.prog 4 #[] W fun e w' => e = .returned (.bool true) ∧ Bl w w' := by
  have N1 : Hid (Calls Try.prog 10 #[.int .i64 1, .int .i64 2] W fun e w' => ∃ p, e = .returned (.pointer (some ⟨p, 0, none⟩)) ∧ LW W p 6 (SO.wa 0) (fun _ => True) w') := (New_yes 1 2 (by decide) (by decide) (by decide) (by decide) W).mono fun e w' ⟨p, B, h1, h2⟩ => ⟨p, h1, LW.new h2⟩
  have N2 : Hid (∀ U, Calls Try.prog 10 #[.int .i64 3, .int .i64 2] U fun e w' => e = .returned (.pointer none) ∧ w' = U) := fun U => New_no 3 2 (by decide) U
  have T1 : Hid (∀ p U, LW W p 6 (SO.wa 0) (fun _ => True) U → Calls Try.prog 6 #[.pointer (some ⟨p, 0, none⟩), .int .i64 0] U fun e w' => ∃ a c, e = .returned (.slice a 1 c) ∧ LW W p 16 (SO.wa 1) (FV a (SO.tick (SO.wa 0) 0).2) w') := fun p U h => (Tick_l h (by decide) 0 ⟨by decide, by decide⟩).mono fun e w' ⟨a, c, h1, h2⟩ => ⟨a, c, by rw [h1, (look_one SO.wa_1).1], h2.weak fun V h => h.2⟩
  have T2 : Hid (∀ p U a, LW W p 16 (SO.wa 1) (FV a (SO.tick (SO.wa 0) 0).2) U → Calls Try.prog 6 #[.pointer (some ⟨p, 0, none⟩), .int .i64 0] U fun e w' => ∃ a' c, e = .returned (.slice a' 0 c) ∧ LW W p 26 (SO.wa 2) (FV a (SO.tick (SO.wa 0) 0).2) w') := fun p U a h => (Tick_l h (by decide) 0 ⟨by decide, by decide⟩).mono fun e w' ⟨a, c, h1, h2⟩ => ⟨a, c, by rw [h1, SO.wa_2], h2.weak fun V h => h.1⟩
  have T3 : Hid (∀ p U a, LW W p 26 (SO.wa 2) (FV a (SO.tick (SO.wa 0) 0).2) U → Calls Try.prog 6 #[.pointer (some ⟨p, 0, none⟩), .int .i64 0] U fun e w' => ∃ a' c, e = .returned (.slice a' 0 c) ∧ LW W p 36 (SO.wa 3) (FV a (SO.tick (SO.wa 0) 0).2) w') := fun p U a h => (Tick_l h (by decide) 0 ⟨by decide, by decide⟩).mono fun e w' ⟨a, c, h1, h2⟩ => ⟨a, c, by rw [h1, SO.wa_3], h2.weak fun V h => h.1⟩
  have T4 : Hid (∀ p U a, LW W p 36 (SO.wa 3) (FV a (SO.tick (SO.wa 0) 0).2) U → Calls Try.prog 6 #[.pointer (some ⟨p, 0, none⟩), .int .i64 0] U fun e w' => ∃ v, e = .returned v ∧ LW W p 46 (SO.wa 4) (FV a (SO.tick (SO.wa 0) 0).2) w') := fun p U a h => (Tick_l h (by decide) 0 ⟨by decide, by decide⟩).mono fun e w' ⟨a, c, h1, h2⟩ => ⟨_, h1, h2.weak fun V h => h.1⟩
  have A1 : Hid (∀ p U a, LW W p 46 (SO.wa 4) (FV a (SO.tick (SO.wa 0) 0).2) U → Calls Try.prog 8 #[.pointer (some ⟨p, 0, none⟩)] U fun e w' => ∃ b1 o1 b2 o2 c, a = some ⟨b1, o1, none⟩ ∧ e = .returned (.slice (some ⟨b2, o2, none⟩) 2 c) ∧ (w'.cell? ⟨b1, o1, none⟩ = some (.int .i64 2) ∧ w'.cell? ⟨b1, o1 + 1, none⟩ = some (.int .i64 1) ∧ w'.cell? ⟨b1, o1 + 2, none⟩ = some (.int .i64 1) ∧ w'.cell? ⟨b1, o1 + 3, none⟩ = some (.int .i64 1)) ∧ w'.cell? ⟨b2, o2 + 5, none⟩ = some (.int .i64 1) ∧ LW W p 46 (SO.wa 4) (fun _ => True) w') := fun p U a h => (All_l h).mono fun e w' ⟨a2, c2, h1, h2, h3⟩ => by
    obtain ⟨_, y, hy, e1, e2, e3, e4, e5⟩ := look_one SO.wa_1
    obtain ⟨b, off, hab, _, k0, k1, k2, k3, k4⟩ := h3.out.five hy
    rw [e1] at k0; rw [e2] at k1; rw [e3] at k2; rw [e4] at k3
    rw [SO.wa_4] at h2 h1
    obtain ⟨b2, o2, hb2, _, r2⟩ := h2 1 (2, 0, 1) rfl
    exact ⟨b, off, b2, o2, c2, hab, by rw [h1, hb2]; rfl, ⟨k0, k1, k2, k3⟩, r2 2 _ rfl, h3.weak fun _ _ => trivial⟩
  have H1 : Hid (∀ p U V b C, LW W p 46 (SO.wa 4) (fun _ => True) U → b = U.heap.size → C = (frL 1 2 7 0 zM (.slice (some ⟨b, 0, none⟩) 1 1)).toArray → V = U.alloc (.cells [.int .i64 1, .int .i64 0, .int .i64 1].toArray 54) → Calls Try.prog 7 #[.pointer (some ⟨p, 0, none⟩), .agg C] V fun e w' => ∃ b c off, e = .returned (.slice (some ⟨b, off, none⟩) 1 c) ∧ LW W p 49 (SO.wb 0) (fun V => V.cell? ⟨b, off + 1, none⟩ = some (.int .i64 2) ∧ V.cell? ⟨b, off + 3, none⟩ = some (.int .i64 7) ∧ V.cell? ⟨b, off + 4, none⟩ = some (.int .i64 1)) w') := fun p U V b C h hbe hC hV => by
    subst hC hV hbe
    refine (Hear_l h ((Bl.refl U).alloc _) (by decide) (frL 1 2 7 0 zM (.slice (some ⟨U.heap.size, 0, none⟩) 1 1)) SO.hf _ _ (frC 0 1 2 7 0 (some ⟨U.heap.size, 0, none⟩) 1 [(1, 0, 1)]) ⟨by decide, by decide⟩ (RS.one lyM U 54 (1, 0, 1)) (fun g off e => by cases e; exact Or.inr (Nat.le_refl _)) (fun m hm => by simp [SO.hf] at hm; subst hm; exact ⟨⟨by decide, by decide⟩, ⟨by decide, by decide⟩⟩) (by decide) (by decide)).mono ?_
    rintro e w' ⟨a, c, h1, h2⟩
    obtain ⟨hl, y, hy, e1, e2, e3, e4, e5⟩ := look_one SO.wb_0
    obtain ⟨b, off, hab, _⟩ := h2.out.2.five hy
    refine ⟨b, c, off, by rw [h1, hl, hab], h2.weak fun V hV => ?_⟩
    obtain ⟨b', off', hab', _, k0, k1, k2, k3, k4⟩ := hV.2.five hy
    rw [hab] at hab'; cases hab'
    rw [e2] at k1; rw [e4] at k3; rw [e5] at k4
    exact ⟨k1, k3, k4⟩
  have TB : Hid (∀ p U K k, k < 8 → LW W p (49 + 10 * k) (SO.wb k) K U → Calls Try.prog 6 #[.pointer (some ⟨p, 0, none⟩), .int .i64 0] U fun e w' => ∃ v, e = .returned v ∧ LW W p (49 + 10 * (k + 1)) (SO.wb (k + 1)) K w') := fun p U K k hk h => (Tick_l h (by omega) 0 ⟨by decide, by decide⟩).mono fun e w' ⟨a, c, h1, h2⟩ => ⟨_, h1, h2.weak fun V h => h.1⟩
  have M1 : Hid (∀ p U K, LW W p 129 (SO.wb 8) K U → Calls Try.prog 11 #[.pointer (some ⟨p, 0, none⟩)] U fun e w' => e = .returned (.agg #[.int .i64 1, .int .i64 1, .int .i64 0]) ∧ LW W p 129 (SO.wb 8) K w') := fun p U K h => (Me_l h).mono fun e w' ⟨h1, h2⟩ => ⟨by rw [h1, show (SO.wb 8).me = 1 from rfl, SO.wb_8]; rfl, h2⟩
  have P1 : Hid (∀ p U K, LW W p 129 (SO.wb 8) K U → Calls Try.prog 9 #[.pointer (some ⟨p, 0, none⟩)] U fun e w' => ∃ a c, e = .returned (.slice a 1 c) ∧ Bl w w') := fun p U K h => (Present_l h).mono fun e w' ⟨a, c, h1, h2⟩ => ⟨a, c, by rw [h1, SO.wb_p]; rfl, hb.step h2.bl⟩
  clear hb
  go_enter Try.func4, Try.ntmps4
  go_wp2_with (first
    | (go_at_call 10; refine (N1.out).mono ?_; clear N1; rintro e w1 ⟨p, rfl, h1⟩; have L0 := hidI h1; clear h1)
    | (go_at_call 10; refine (N2.out _).mono ?_; clear N2; rintro e w2 ⟨rfl, hw⟩; rw [hw]; clear hw w2)
    | (go_at_call 6; refine (T1.out _ _ L0.out).mono ?_; clear T1 L0; rintro e w3 ⟨a1, c1, rfl, h1⟩; have L1 := hidI h1; clear h1)
    | (go_at_call 6; refine (T2.out _ _ _ L1.out).mono ?_; clear T2 L1; rintro e w4 ⟨a2, c2, rfl, h1⟩; have L2 := hidI h1; clear h1)
    | (go_at_call 6; refine (T3.out _ _ _ L2.out).mono ?_; clear T3 L2; rintro e w5 ⟨a3, c3, rfl, h1⟩; have L3 := hidI h1; clear h1)
    | (go_at_call 6; refine (T4.out _ _ _ L3.out).mono ?_; clear T4 L3; rintro e w6 ⟨v4, rfl, h1⟩; have L4 := hidI h1; clear h1)
    | (go_at_call 8; refine (A1.out _ _ _ L4.out).mono ?_; clear A1 L4; rintro e w7 ⟨b1, o1, b2, o2, c2, rfl, rfl, ⟨k0, k1, k2, k3⟩, k5, h1⟩; have L5 := hidI h1; clear h1)
    | (go_at_call 7; refine (H1.out _ _ _ _ _ L5.out rfl (by kernel_rfl) rfl).mono ?_; clear H1 L5 k0 k1 k2 k3 k5; rintro e w8 ⟨b3, c3', o3, rfl, h1⟩; have L6 := hidI h1; clear h1))
  go_loopw [7] (fun u7 wr => ∃ k : Nat, k ≤ 8 ∧ u7 = .int .i64 (k : Int) ∧ LW W p (49 + 10 * k) (SO.wb k) (fun V => V.cell? ⟨b3, o3 + 1, none⟩ = some (.int .i64 2) ∧ V.cell? ⟨b3, o3 + 3, none⟩ = some (.int .i64 7) ∧ V.cell? ⟨b3, o3 + 4, none⟩ = some (.int .i64 1)) wr) (fun u7 _ => 8 - (intOf u7).toNat)
  case atStart => exact ⟨0, by omega, rfl, L6.out⟩
  case round =>
    obtain ⟨k, hk, rfl, hl⟩ := hrel
    clear L6
    by_cases hlt : k < 8
    · have CT := hidI (TB.out _ _ _ k hlt hl)
      clear hl TB
      go_wp2_with (go_at_call 6; refine (CT.out).mono ?_; clear CT; rintro e w9 ⟨v9, rfl, h1⟩; have L7 := hidI h1; clear h1)
      go_roundw
      case rel => exact ⟨k + 1, by omega, by go_num, L7.out⟩
      case measure => simp [intOf]; omega
    · obtain rfl : k = 8 := by omega
      obtain ⟨k1, k3, k4⟩ := hl.out
      have CM := hidI (M1.out _ _ _ hl)
      clear hl TB
      go_wp2_with (first
        | (go_at_call 11; refine (CM.out).mono ?_; clear CM; rintro e w10 ⟨rfl, h1⟩; have L8 := hidI h1; clear h1)
        | (go_at_call 9; refine (P1.out _ _ _ L8.out).mono ?_; clear P1 L8; rintro e w11 ⟨a4, c4, rfl, h1⟩; have HB := hidI h1; clear h1))
      go_ret
      exact ⟨rfl, HB.out⟩
end Go.Proofs.Ytebmgajijjhinaa

/- A law's scout with an array beside it; asked in turn. -/
namespace Go.Proofs.Ytebmgajijjhinaa
open Go.RowKit Go.Maps
set_option linter.unusedVariables false
set_option linter.unusedSimpArgs false

/-- flags of those who were seen -/
def sb (l : List Int) : List Value := (List.range 7).map fun (j : Nat) => .bool (l.contains (j : Int))
theorem sb_len (l : List Int) : (sb l).length = 7 := by simp [sb]
theorem sb_at (l : List Int) {x : Int} (h : 0 ≤ x ∧ x ≤ 6) : (sb l)[x.toNat]? = some (.bool (l.contains x)) := by
  unfold sb
  rw [List.getElem?_map, List.getElem?_range (by omega)]
  simp only [Option.map_some]
  rw [show ((x.toNat : Nat) : Int) = x by omega]
theorem sb_set (l : List Int) {x : Int} (h : 0 ≤ x ∧ x ≤ 6) : (sb l).set x.toNat (.bool true) = sb (l ++ [x]) := by
  apply List.ext_getElem?
  intro j
  unfold sb
  rw [List.getElem?_set]
  by_cases hj : j < 7
  · rw [List.getElem?_map, List.getElem?_map, List.getElem?_range hj]
    simp only [Option.map_some, List.length_map, List.length_range]
    by_cases e : x.toNat = j
    · rw [if_pos e, if_pos (by omega)]
      have : (j : Int) = x := by omega
      simp [this]
    · rw [if_neg e]
      have : (j : Int) ≠ x := by omega
      simp [this]
  · rw [if_neg (by omega), List.getElem?_eq_none (by simp; omega), List.getElem?_eq_none (by simp; omega)]
theorem sb_nil : sb [] = [.bool false, .bool false, .bool false, .bool false, .bool false, .bool false, .bool false] := rfl
def um12 (n : Int) (m : Nat) : Nat := (n % 18446744073709551616).toNat % m
theorem um12_lt (n : Int) (m : Nat) (h : 0 < m) : um12 n m < m := Nat.mod_lt _ h
theorem um12_wrap (n : Int) (m : Nat) : Int.tmod (IntKind.u64.wrap n) (m : Int) = (um12 n m : Int) := by
  have e : IntKind.u64.wrap n = ((n % 18446744073709551616).toNat : Int) := by
    simp only [IntKind.wrap, IntKind.bits, IntKind.signed]; simp; omega
  rw [e, Int.tmod_eq_emod_of_nonneg (by omega)]; rfl
end Go.Proofs.Ytebmgajijjhinaa
