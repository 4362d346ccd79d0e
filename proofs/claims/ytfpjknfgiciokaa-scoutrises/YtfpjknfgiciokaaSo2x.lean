/- The texts So21 So22 as one. -/
import Derived.Test.YtfpjknfgiciokaaSo20
import Derived.Test.YtfpjknfgiciokaaSo18
/- hearAck. -/
namespace Go.Proofs.Ytfpjknfgiciokaa
open Go.RowKit Go.Maps
set_option linter.unusedVariables false
set_option linter.unusedSimpArgs false

theorem stepo_storeR {P : Program} {ops : Array Oper} {o : Oper} {a : Act} {w : World} {K : Act → World → Prop} {Q : Exit → Act → World → Prop} {E : Prop} (hgd : o.guard = none) (ty : TypeId) (x y : Operand) (ho : o.op = .store ty x y)
    (g : Nat) (cells : Array Value) (hx : a.eval x = .pointer (some ⟨g, 0, none⟩)) (hy : a.eval y = .agg cells) (t : TypeId) (old : Array Value) (hg : w.heap[g]? = some (.cells old t (0, 0))) (hi : (P.info? ty).map (·.size) = some cells.size) (hold : old.size = cells.size) (h1 : cells.all (·.oneCell') = true)
    (h : K (a.put o.dst undef) (w.setRow g cells)) : if Region.wanted o (yielded ops a.tmps) = true then Oper.wp P o a w K Q else E := by
  have hw : Region.wanted o (yielded ops a.tmps) = true := by simp [Region.wanted, hgd]
  rw [if_pos hw]
  exact wp_store_row ty x y ho g cells hx hy t old hg hi hold h1 h
/-- what lies below n is as in X -/
structure BW (n : Nat) (X U : World) : Prop where
  nn : n ≤ X.heap.size
  b : Below n X U
theorem BW.refl {n : Nat} {X : World} (h : n ≤ X.heap.size) : BW n X X := ⟨h, Below.refl _ _⟩
theorem BW.le {n : Nat} {X U : World} (h : BW n X U) : n ≤ U.heap.size := Nat.le_trans h.nn h.b.size
theorem BW.drewN {n : Nat} {X U : World} (h : BW n X U) (k : Nat) : BW n X (U.drewN k) := ⟨h.nn, ⟨h.b.os, h.b.tape, h.b.output, h.b.size, h.b.block⟩⟩
theorem BW.alloc {n : Nat} {X U : World} (h : BW n X U) (o : Obj) : BW n X (U.alloc o) := ⟨h.nn, Below.alloc h.b h.le o⟩
theorem BW.row {n : Nat} {X U : World} (h : BW n X U) (g : Nat) (C : Array Value) (hg : n ≤ g) : BW n X (U.setRow g C) := by
  have o := of1_setRow U g C
  exact ⟨h.nn, ⟨o.os.trans h.b.os, o.tape.trans h.b.tape, o.output.trans h.b.output, Nat.le_trans h.b.size o.size, fun k hk => (o.block k (Nat.lt_of_lt_of_le hk h.le) (by omega)).trans (h.b.block k hk)⟩⟩
theorem closeL_len (f : SO.Fr) : ∀ l : List SO.Er, (SO.closeL f l).length = l.length
  | [] => rfl
  | e :: r => by
    unfold SO.closeL
    split
    · rfl
    · rw [List.length_cons, closeL_len f r, List.length_cons]
/-- the errands' row has turned -/
theorem S0.errs {w W W' : World} {p : Nat} {P : Pl} {B : Nat → Prop} {N : Nat} {s : SO.Sc} (x : S0 w p P B N s W) (L : List SO.Er) (hL : L.length = s.er.length) (ho : W'.ownsRow w.heap.size tEr 5 P.ev s.er.length (flG lyE L)) (hg : W.grownBy W' P.ev.ownBlock) : S0 w p P B N { s with er := L } W' ∧ OS B B W W' := by
  have ne : ∀ {g : Nat} {C : Array Value} {T : TypeId}, W.heap[g]? = some (.cells C T (0, 0)) → T ≠ tEr → W'.heap[g]? = W.heap[g]? := fun {g C T} e t1 => hg.block g (lt_heap e) (fun e2 => by
    obtain ⟨D, hD⟩ := own_tag x.er e2.symm
    exact tags e hD t1 rfl)
  have nb : W'.heap[P.b]? = W.heap[P.b]? := by
    obtain ⟨es, c, hm⟩ := x.vt.mp.isMap
    refine hg.block _ (lt_heap hm) (fun e => ?_)
    obtain ⟨D, hD⟩ := own_tag x.er e.symm
    rw [hm] at hD; cases hD
  have hos : OS B B W W' := ⟨hg.os, hg.tape, hg.output, hg.size, fun k hk hn => hg.block k hk (fun e => hn (x.Be k e.symm)), fun k h => Or.inl h⟩
  have hbl : Bl w W' := hos.below x.bl (fun k h => (x.Bo k h).1)
  have nm := x.num
  refine ⟨⟨(ne x.row (by decide)).trans x.row, ⟨(ne x.vt.row (by decide)).trans x.vt.row, x.vt.mp.block nb, x.vt.q0, x.vt.b0, hbl⟩,
    ⟨(ne x.hl.row (by decide)).trans x.hl.row, own_keep x.hl.own (fun g C e e2 => ne e2 (by decide)), x.hl.b0, hbl, x.hl.rep, x.hl.ok, x.hl.t1, x.hl.t2⟩,
    x.ln.keep (fun g off C e e2 => ne e2 (by decide)), x.hp.keep (fun g off C e e2 => ne e2 (by decide)), by show W'.ownsRow _ _ _ _ L.length _; rw [hL]; exact ho, x.Bp, x.Bq, x.Bb, x.Bh, x.Bv, x.Bn, x.Ba, x.Be, fun k hk => ⟨(x.Bo k hk).1, Nat.lt_of_lt_of_le (x.Bo k hk).2 hg.size⟩,
    ⟨nm.n1, nm.n2, nm.q1, nm.q2, nm.s1, nm.s2, nm.m1, nm.m2, nm.m3, nm.p1, nm.p2, nm.ok, by show L.length ≤ 16; rw [hL]; exact nm.el, nm.ll, nm.l1, nm.hh⟩, x.lcp⟩, hos⟩
/-- a scout whose blocks lie below n -/
theorem S0.bw' {w W W' : World} {p : Nat} {P : Pl} {B : Nat → Prop} {N n : Nat} {s : SO.Sc} (x : S0 w p P B N s W) (hB : ∀ k, B k → k < n) (hw : w.heap.size ≤ n) (h : BW n W W') : S0 w p P B N s W' :=
  x.keep h.b.size ⟨h.b.os.trans x.bl.os, h.b.tape.trans x.bl.tape, h.b.output.trans x.bl.output, Nat.le_trans x.bl.size h.b.size, fun k hk => (h.b.block k (by omega)).trans (x.bl.block k hk)⟩ (fun k hk => h.b.block k (hB k hk))
/-- what is there behind probe.hear: close may be called -/
structure RK (w : World) (p : Nat) (B : Nat → Prop) (W : World) (N : Nat) (s2 : SO.Sc) (FL : List Value) (oe : Option SO.Er) (ev : Value) (w3 : World) : Prop where
  k3 : ∀ U, BW w3.heap.size w3 U → U.cell? ⟨p, 18, none⟩ = some ev ∧ U.rangeAt W.heap.size 0 FL
  cl : ∀ U, BW w3.heap.size w3 U → Calls Try.prog 58 #[ev, .agg FL.toArray] U fun e V => e = .returned (clV oe) ∧ BW w3.heap.size V V ∧ Hid (∀ U', BW w3.heap.size V U' → (U'.cell? ⟨p, 18, none⟩ = some ev ∧ U'.rangeAt W.heap.size 0 FL) ∧ SX w p B W N s2 U') ∧ Hid (∀ C t, U.heap[w3.heap.size]? = some (.cells C t (0, 0)) → V.heap[w3.heap.size]? = some (.cells C t (0, 0)))
theorem rk {w W w3 : World} {p N : Nat} {B B3 : Nat → Prop} {P3 : Pl} {s1 : SO.Sc} (x : S0 w p P3 B3 N s1 w3) (o : OS B B3 W w3) (FL : List Value) (f : SO.Fr) (a : Option Addr) (c : Nat) (hf : FrC FL f a c) (hbx : w3.heap[W.heap.size]? = some (.cells FL.toArray tFr (0, 0))) (hnb : ¬ B3 W.heap.size) : RK w p B W N { s1 with er := SO.closeL f s1.er } FL (s1.er.find? (SO.fitE f)) P3.ev w3 := by
  have hB : ∀ k, B3 k → k < w3.heap.size := fun k h => (x.Bo k h).2
  have hw : w.heap.size ≤ w3.heap.size := x.bl.size
  have hW : W.heap.size < w3.heap.size := lt_heap hbx
  have rg : ∀ U : World, U.heap[W.heap.size]? = w3.heap[W.heap.size]? → U.rangeAt W.heap.size 0 FL := fun U h j v hv => by
    rw [hbx] at h
    rw [Nat.zero_add]; exact cellL h hv
  refine ⟨fun U h => ⟨(x.bw' hB hw h).c18, rg U (h.b.block _ hW)⟩, fun U h => ?_⟩
  have xU := x.bw' hB hw h
  refine (close_x xU.er (by have := xU.num.el; omega) FL f a c hf).mono ?_
  rintro e V ⟨rfl, g1, g2⟩
  obtain ⟨y1, y2⟩ := xU.errs (SO.closeL f s1.er) (closeL_len f s1.er) g1 g2
  have hle : w3.heap.size ≤ V.heap.size := Nat.le_trans h.le g2.size
  refine ⟨rfl, BW.refl hle, fun U' h' => ?_, fun C t hC => ?_⟩
  · have y3 := y1.bw' hB hw h'
    have hb2 : U'.heap[W.heap.size]? = w3.heap[W.heap.size]? := by
      rw [h'.b.block _ hW, y2.block _ (Nat.lt_of_lt_of_le hW h.le) hnb, h.b.block _ hW]
    refine ⟨⟨y3.c18, rg U' hb2⟩, SX.of y3 (o.trans ⟨h'.b.os.trans (y2.os.trans h.b.os), h'.b.tape.trans (y2.tape.trans h.b.tape), h'.b.output.trans (y2.output.trans h.b.output), Nat.le_trans hle h'.b.size, fun k hk hn => ?_, fun k hk => Or.inl hk⟩)⟩
    rw [h'.b.block k hk, y2.block k (Nat.lt_of_lt_of_le hk h.le) hn, h.b.block k hk]
  · rw [y2.block _ (lt_heap hC) (fun hB' => by have := hB _ hB'; omega)]
    exact hC
theorem cells5 {w : World} {b : Nat} {x y z u v : Value} {t : TypeId} (h : w.heap[b]? = some (.cells #[x, y, z, u, v] t (0, 0))) : w.cell? ⟨b, 1, none⟩ = some y ∧ w.cell? ⟨b, 2, none⟩ = some z ∧ w.cell? ⟨b, 3, none⟩ = some u := ⟨by rw [Lib.cell_of_heap h]; rfl, by rw [Lib.cell_of_heap h]; rfl, by rw [Lib.cell_of_heap h]; rfl⟩
theorem pHear_er (s : SO.Sc) (f : SO.Fr) : (SO.pHear s f).er = s.er := by unfold SO.pHear; split <;> rfl
theorem er_one (e : SO.Er) : (erV e).all (·.oneCell') = true := by simp [erV, lyE, Value.oneCell']
set_option maxRecDepth 8000 in
set_option maxHeartbeats 4000000 in
theorem hearAck_x {w W : World} {p : Nat} {P : Pl} {B : Nat → Prop} {N : Nat} {s : SO.Sc} (x : S0 w p P B N s W) (FL : List Value) (f : SO.Fr) (a : Option Addr) (c : Nat) (hf : FrC FL f a c) :
    Calls Try.prog 35 #[.pointer (some ⟨p, 0, none⟩), .agg FL.toArray] W fun e w' => Ans w p B W N (SO.ackE (SO.pHear s f) f).1 (SO.ackE (SO.pHear s f) f).2 e w' := by
  have hb0 : Bl W (W.alloc (.cells FL.toArray tFr)) := (Bl.refl W).alloc _
  have HB : Bl (W.alloc (.cells FL.toArray tFr)) (W.alloc (.cells FL.toArray tFr)) := Bl.refl _
  have HRG : Hid (∀ U, Bl (W.alloc (.cells FL.toArray tFr)) U → U.rangeAt W.heap.size 0 FL) := fun U h j v hv => by rw [Nat.zero_add]; exact cellL h.box hv
  have CP : Hid (∀ U, Bl (W.alloc (.cells FL.toArray tFr)) U → Calls Try.prog 57 #[.pointer (some ⟨p, 14, none⟩), .agg FL.toArray] U fun e w3 => e = .returned (.tuple #[]) ∧ w3.rangeAt W.heap.size 0 FL ∧ ∃ ev, RK w p B W N { SO.pHear s f with er := SO.closeL f (SO.pHear s f).er } FL ((SO.pHear s f).er.find? (SO.fitE f)) ev w3) := fun U h => by
    have xU := x.grow (hb0.step h)
    refine (pHear_x xU FL f a c hf).mono ?_
    rintro e w3 ⟨rfl, B3, ⟨P3, x3⟩, o3⟩
    have hnb0 : ¬ B W.heap.size := fun hB => by have := (x.Bo _ hB).2; omega
    have hbx : w3.heap[W.heap.size]? = some (.cells FL.toArray tFr (0, 0)) := (o3.block _ (lt_heap h.box) hnb0).trans h.box
    have hnb3 : ¬ B3 W.heap.size := fun hB => by
      rcases o3.own _ hB with h1 | h1
      · exact hnb0 h1
      · have := lt_heap h.box; omega
    exact ⟨rfl, fun j v hv => by rw [Nat.zero_add]; exact cellL hbx hv, P3.ev, rk x3 ((OS.of_bl (hb0.step h)).trans o3) FL f a c hf hbx hnb3⟩
  obtain ⟨fs, humF⟩ := undFr
  have hiF : (Try.prog.info? tFr).map (·.size) = some FL.length := by rw [hf.len]; exact infoFr
  have HAK : Hid (SO.ackE (SO.pHear s f) f = match (SO.pHear s f).er.find? (SO.fitE f) with
    | some e => (SO.tellS { SO.pHear s f with er := SO.closeL f (SO.pHear s f).er } [SO.ack e.asker e.asked e.node], SO.tellL { SO.pHear s f with er := SO.closeL f (SO.pHear s f).er } [SO.ack e.asker e.asked e.node])
    | none => (SO.pHear s f, [])) := rfl
  have HCN : (SO.pHear s f).er.find? (SO.fitE f) = none → ({ SO.pHear s f with er := SO.closeL f (SO.pHear s f).er } : SO.Sc) = SO.pHear s f := fun h => by
    rw [closeL_none (fun i y hi hy => by
      have := List.find?_eq_none.1 h y (List.mem_of_getElem? hy)
      simpa using this)]
  clear x hb0 hf
  generalize SO.pHear s f = s1 at *
  cases hfe : s1.er.find? (SO.fitE f) with
  | none =>
    rw [hfe] at CP HAK
    rw [HCN hfe] at CP
    have HE : Hid ((SO.ackE s1 f).1 = s1 ∧ (SO.ackE s1 f).2 = []) := by show _ ∧ _; rw [HAK.out]; exact ⟨rfl, rfl⟩
    rw [HE.out.1, HE.out.2]
    clear HAK HE HCN hfe
    go_enter Try.func35, Try.ntmps35
    go_wp2_with fail
    refine wp_region_noPanic ?_
    refine wp_region_held_drew (S := fun U => U.rangeAt W.heap.size 0 FL) (by kernel_rfl) ((by first | exact HRG.out _ (HB.drewN 1) | exact (HB.drewN 1).1)) (fun hHeld => ?_)
    refine wpAnyH_take (i := 0) rfl (by kernel_rfl) (by kernel_rfl) (by kernel_rfl) (fun _ _ _ h => h) (yi_move (by kernel_rfl) rfl rfl) (by assumption) ?_
    simp only [Act.put, List.getElem_toArray, List.getElem_cons_succ, List.getElem_cons_zero, List.setIfInBounds_toArray, List.set_cons_zero, List.set_cons_succ]
    refine wpAnyH_take (i := 1) (v := ?_) rfl (by kernel_rfl) (by kernel_rfl) (by kernel_rfl) (fun _ _ _ h => h) (Or.inl ⟨by kernel_rfl, ?_⟩) (by assumption) ?_
    rotate_left
    · (intro w hSw; (try dsimp only at hSw); go_simp; (try with_reducible rfl))
    simp only [Act.put, List.getElem_toArray, List.getElem_cons_succ, List.getElem_cons_zero, List.setIfInBounds_toArray, List.set_cons_zero, List.set_cons_succ]
    refine wpAnyH_take (i := 2) (v := ?_) rfl (by kernel_rfl) (by kernel_rfl) (by kernel_rfl) (fun _ _ _ h => h) (Or.inl ⟨by kernel_rfl, ?_⟩) (by assumption) ?_
    rotate_left
    · (intro w hSw; (try dsimp only at hSw); go_simp; (try with_reducible rfl))
    simp only [Act.put, List.getElem_toArray, List.getElem_cons_succ, List.getElem_cons_zero, List.setIfInBounds_toArray, List.set_cons_zero, List.set_cons_succ]
    refine wpAnyH_take (i := 3) (v := .agg (List.toArray FL)) rfl (by kernel_rfl) (by kernel_rfl) (by kernel_rfl) (fun _ _ _ h => h) (yieldsIf_load_mid (by kernel_rfl) _ (.tmp 3) (by kernel_rfl) W.heap.size 0 (by kernel_rfl) FL _ (fun W hW => hW) humF rfl hiF) (by assumption) ?_
    simp only [Act.put, List.getElem_toArray, List.getElem_cons_succ, List.getElem_cons_zero, List.setIfInBounds_toArray, List.set_cons_zero, List.set_cons_succ]
    refine wpAnyH_ready (rs := [4]) (by kernel_rfl) (by simp) ?_
    refine AllReadyH.cons (o := _) rfl (fun K hK => ?_) AllReadyH.nil
    go_simp
    go_at_call 57; refine (CP.out _ (HB.drewN 1)).mono ?_; rintro e w3 ⟨rfl, HB5⟩
    refine hK.out _ _ ((by first | exact HRG.out _ HB5 | exact HB5.1)) (fun hHeld => ?_)
    clear hK K
    (try simp only [Act.put, List.getElem_toArray, List.getElem_cons_succ, List.getElem_cons_zero, List.setIfInBounds_toArray, List.set_cons_zero, List.set_cons_succ])
    refine wpAnyH_done (by kernel_rfl) ?_ _
    refine NoPanic.normal ?_
    obtain ⟨_, ev, hrk⟩ := HB5
    have RKH := hidI hrk
    clear hrk
    have HB3 : BW w3.heap.size w3 w3 := BW.refl (Nat.le_refl _)
    go_wp2_with fail
    refine wp_region_noPanic ?_
    refine wp_region_held_drew (S := fun U => U.cell? ⟨p, 18, none⟩ = some ev ∧ U.rangeAt W.heap.size 0 FL) (by kernel_rfl) ((by first | exact RKH.out.k3 _ (HB3.drewN 1) | exact (FC.out _ (HB3.drewN 1)).1)) (fun hHeld => ?_)
    refine wpAnyH_take (i := 0) rfl (by kernel_rfl) (by kernel_rfl) (by kernel_rfl) (fun _ _ _ h => h) (yi_move (by kernel_rfl) rfl rfl) (by assumption) ?_
    simp only [Act.put, List.getElem_toArray, List.getElem_cons_succ, List.getElem_cons_zero, List.setIfInBounds_toArray, List.set_cons_zero, List.set_cons_succ]
    refine wpAnyH_take (i := 1) (v := ?_) rfl (by kernel_rfl) (by kernel_rfl) (by kernel_rfl) (fun _ _ _ h => h) (Or.inl ⟨by kernel_rfl, ?_⟩) (by assumption) ?_
    rotate_left
    · (intro w hSw; (try dsimp only at hSw); go_simp; (try with_reducible rfl))
    simp only [Act.put, List.getElem_toArray, List.getElem_cons_succ, List.getElem_cons_zero, List.setIfInBounds_toArray, List.set_cons_zero, List.set_cons_succ]
    refine wpAnyH_take (i := 2) (v := ?_) rfl (by kernel_rfl) (by kernel_rfl) (by kernel_rfl) (fun _ _ _ h => h) (Or.inl ⟨by kernel_rfl, ?_⟩) (by assumption) ?_
    rotate_left
    · (intro w hSw; (try dsimp only at hSw); go_simp; (try with_reducible rfl))
    simp only [Act.put, List.getElem_toArray, List.getElem_cons_succ, List.getElem_cons_zero, List.setIfInBounds_toArray, List.set_cons_zero, List.set_cons_succ]
    refine wpAnyH_take (i := 3) (v := ?_) rfl (by kernel_rfl) (by kernel_rfl) (by kernel_rfl) (fun _ _ _ h => h) (Or.inl ⟨by kernel_rfl, ?_⟩) (by assumption) ?_
    rotate_left
    · (intro w hSw; obtain ⟨z1, z2⟩ := hSw; go_simp; (try with_reducible rfl))
    simp only [Act.put, List.getElem_toArray, List.getElem_cons_succ, List.getElem_cons_zero, List.setIfInBounds_toArray, List.set_cons_zero, List.set_cons_succ]
    refine wpAnyH_take (i := 4) (v := .agg (List.toArray FL)) rfl (by kernel_rfl) (by kernel_rfl) (by kernel_rfl) (fun _ _ _ h => h) (yieldsIf_load_mid (by kernel_rfl) _ (.tmp 3) (by kernel_rfl) W.heap.size 0 (by kernel_rfl) FL _ (fun W hW => hW.2) humF rfl hiF) (by assumption) ?_
    simp only [Act.put, List.getElem_toArray, List.getElem_cons_succ, List.getElem_cons_zero, List.setIfInBounds_toArray, List.set_cons_zero, List.set_cons_succ]
    refine wpAnyH_ready (rs := [5, 9]) (by kernel_rfl) (by simp) ?_
    refine AllReadyH.cons (o := _) rfl (fun K hK => ?_) ?_
    · go_simp
      go_at_call 58; refine (RKH.out.cl _ (HB3.drewN 1)).mono ?_; rintro e V6 ⟨he, HB6, FC, HK⟩; have he2 : e = .returned (.tuple #[.agg #[.int .i64 0, .int .i64 0, .int .i64 0, .int .i64 0, .bool false], .bool false]) := he; subst he2; clear he; have HBV := HB6; (try have BX := HK.out _ _ (heap_alloc_new _ _))
      refine hK.out _ _ ((by first | exact RKH.out.k3 _ HB6 | exact (FC.out _ HB6).1)) (fun hHeld => ?_)
      clear hK K
      (try simp only [Act.put, List.getElem_toArray, List.getElem_cons_succ, List.getElem_cons_zero, List.setIfInBounds_toArray, List.set_cons_zero, List.set_cons_succ])
      refine wpAnyH_take (i := 6) rfl (by kernel_rfl) (by kernel_rfl) (by kernel_rfl) (fun _ _ _ h => h) (yi_move (by kernel_rfl) rfl rfl) (by assumption) ?_
      simp only [Act.put, List.getElem_toArray, List.getElem_cons_succ, List.getElem_cons_zero, List.setIfInBounds_toArray, List.set_cons_zero, List.set_cons_succ]
      refine wpAnyH_take (i := 7) (v := ?_) rfl (by kernel_rfl) (by kernel_rfl) (by kernel_rfl) (fun _ _ _ h => h) (Or.inl ⟨by kernel_rfl, ?_⟩) (by assumption) ?_
      rotate_left
      · (intro w hSw; (try dsimp only at hSw); go_simp; (try with_reducible rfl))
      simp only [Act.put, List.getElem_toArray, List.getElem_cons_succ, List.getElem_cons_zero, List.setIfInBounds_toArray, List.set_cons_zero, List.set_cons_succ]
      refine wpAnyH_take (i := 8) (v := ?_) rfl (by kernel_rfl) (by kernel_rfl) (by kernel_rfl) (fun _ _ _ h => h) (Or.inl ⟨by kernel_rfl, ?_⟩) (by assumption) ?_
      rotate_left
      · (intro w hSw; (try dsimp only at hSw); go_simp; (try with_reducible rfl))
      simp only [Act.put, List.getElem_toArray, List.getElem_cons_succ, List.getElem_cons_zero, List.setIfInBounds_toArray, List.set_cons_zero, List.set_cons_succ]
      refine wpAnyH_ready (rs := [9]) (by kernel_rfl) (by simp) ?_
      refine AllReadyH.cons (o := _) rfl (fun K hK => ?_) AllReadyH.nil
      go_simp
      refine hK.out _ _ ((by first | exact RKH.out.k3 _ ((HB6).alloc _) | exact (FC.out _ ((HB6).alloc _)).1)) (fun hHeld => ?_)
      clear hK K
      (try simp only [Act.put, List.getElem_toArray, List.getElem_cons_succ, List.getElem_cons_zero, List.setIfInBounds_toArray, List.set_cons_zero, List.set_cons_succ])
      refine wpAnyH_ready (rs := [10]) (by kernel_rfl) (by simp) ?_
      refine AllReadyH.cons (o := _) rfl (fun K hK => ?_) AllReadyH.nil
      refine stepo_storeR rfl tEr _ _ rfl _ #[.int .i64 0, .int .i64 0, .int .i64 0, .int .i64 0, .bool false] (by rfl) (by rfl) tEr #[.int .i64 0, .int .i64 0, .int .i64 0, .int .i64 0, .bool false] (by first | exact BX | exact heap_alloc_new _ _) infoEr rfl (by simp [Value.oneCell']) (hK.out _ _ ((by first | exact RKH.out.k3 _ ((((HB6).alloc _)).row _ _ (by first | exact Nat.le_refl _ | exact HBV.le)) | exact (FC.out _ ((((HB6).alloc _)).row _ _ (by first | exact Nat.le_refl _ | exact HBV.le))).1)) (fun hHeld => ?_))
      clear hK K
      (try simp only [Act.put, List.getElem_toArray, List.getElem_cons_succ, List.getElem_cons_zero, List.setIfInBounds_toArray, List.set_cons_zero, List.set_cons_succ])
      refine wpAnyH_take (i := 11) rfl (by kernel_rfl) (by kernel_rfl) (by kernel_rfl) (fun _ _ _ h => h) (yi_assign (by kernel_rfl) rfl rfl) (by assumption) ?_
      simp only [Act.put, List.getElem_toArray, List.getElem_cons_succ, List.getElem_cons_zero, List.setIfInBounds_toArray, List.set_cons_zero, List.set_cons_succ]
      refine wpAnyH_done (by kernel_rfl) ?_ _
      refine NoPanic.normal ?_
      go_wp2_with fail
      go_ret
      exact ans_none (FC.out _ (((((HB6).alloc _)).row _ _ (by first | exact Nat.le_refl _ | exact HBV.le)))).2
    refine AllReadyH.cons (o := _) rfl (fun K hK => ?_) ?_
    · go_simp
      refine hK.out _ _ ((by first | exact RKH.out.k3 _ (((HB3.drewN 1)).alloc _) | exact (FC.out _ (((HB3.drewN 1)).alloc _)).1)) (fun hHeld => ?_)
      clear hK K
      (try simp only [Act.put, List.getElem_toArray, List.getElem_cons_succ, List.getElem_cons_zero, List.setIfInBounds_toArray, List.set_cons_zero, List.set_cons_succ])
      refine wpAnyH_ready (rs := [5]) (by kernel_rfl) (by simp) ?_
      refine AllReadyH.cons (o := _) rfl (fun K hK => ?_) AllReadyH.nil
      go_simp
      go_at_call 58; refine (RKH.out.cl _ (((HB3.drewN 1)).alloc _)).mono ?_; rintro e V13 ⟨he, HB13, FC, HK⟩; have he2 : e = .returned (.tuple #[.agg #[.int .i64 0, .int .i64 0, .int .i64 0, .int .i64 0, .bool false], .bool false]) := he; subst he2; clear he; have HBV := HB13; (try have BX := HK.out _ _ (heap_alloc_new _ _))
      refine hK.out _ _ ((by first | exact RKH.out.k3 _ HB13 | exact (FC.out _ HB13).1)) (fun hHeld => ?_)
      clear hK K
      (try simp only [Act.put, List.getElem_toArray, List.getElem_cons_succ, List.getElem_cons_zero, List.setIfInBounds_toArray, List.set_cons_zero, List.set_cons_succ])
      refine wpAnyH_take (i := 6) rfl (by kernel_rfl) (by kernel_rfl) (by kernel_rfl) (fun _ _ _ h => h) (yi_move (by kernel_rfl) rfl rfl) (by assumption) ?_
      simp only [Act.put, List.getElem_toArray, List.getElem_cons_succ, List.getElem_cons_zero, List.setIfInBounds_toArray, List.set_cons_zero, List.set_cons_succ]
      refine wpAnyH_take (i := 7) (v := ?_) rfl (by kernel_rfl) (by kernel_rfl) (by kernel_rfl) (fun _ _ _ h => h) (Or.inl ⟨by kernel_rfl, ?_⟩) (by assumption) ?_
      rotate_left
      · (intro w hSw; (try dsimp only at hSw); go_simp; (try with_reducible rfl))
      simp only [Act.put, List.getElem_toArray, List.getElem_cons_succ, List.getElem_cons_zero, List.setIfInBounds_toArray, List.set_cons_zero, List.set_cons_succ]
      refine wpAnyH_take (i := 8) (v := ?_) rfl (by kernel_rfl) (by kernel_rfl) (by kernel_rfl) (fun _ _ _ h => h) (Or.inl ⟨by kernel_rfl, ?_⟩) (by assumption) ?_
      rotate_left
      · (intro w hSw; (try dsimp only at hSw); go_simp; (try with_reducible rfl))
      simp only [Act.put, List.getElem_toArray, List.getElem_cons_succ, List.getElem_cons_zero, List.setIfInBounds_toArray, List.set_cons_zero, List.set_cons_succ]
      refine wpAnyH_ready (rs := [10]) (by kernel_rfl) (by simp) ?_
      refine AllReadyH.cons (o := _) rfl (fun K hK => ?_) AllReadyH.nil
      refine stepo_storeR rfl tEr _ _ rfl _ #[.int .i64 0, .int .i64 0, .int .i64 0, .int .i64 0, .bool false] (by rfl) (by rfl) tEr #[.int .i64 0, .int .i64 0, .int .i64 0, .int .i64 0, .bool false] (by first | exact BX | exact heap_alloc_new _ _) infoEr rfl (by simp [Value.oneCell']) (hK.out _ _ ((by first | exact RKH.out.k3 _ ((HB13).row _ _ (by first | exact Nat.le_refl _ | exact HBV.le)) | exact (FC.out _ ((HB13).row _ _ (by first | exact Nat.le_refl _ | exact HBV.le))).1)) (fun hHeld => ?_))
      clear hK K
      (try simp only [Act.put, List.getElem_toArray, List.getElem_cons_succ, List.getElem_cons_zero, List.setIfInBounds_toArray, List.set_cons_zero, List.set_cons_succ])
      refine wpAnyH_take (i := 11) rfl (by kernel_rfl) (by kernel_rfl) (by kernel_rfl) (fun _ _ _ h => h) (yi_assign (by kernel_rfl) rfl rfl) (by assumption) ?_
      simp only [Act.put, List.getElem_toArray, List.getElem_cons_succ, List.getElem_cons_zero, List.setIfInBounds_toArray, List.set_cons_zero, List.set_cons_succ]
      refine wpAnyH_done (by kernel_rfl) ?_ _
      refine NoPanic.normal ?_
      go_wp2_with fail
      go_ret
      exact ans_none (FC.out _ (((HB13).row _ _ (by first | exact Nat.le_refl _ | exact HBV.le)))).2
    exact AllReadyH.nil
  | some e0 =>
    rw [hfe] at CP HAK
    obtain ⟨s2, hs2⟩ : ∃ s2, ({ s1 with er := SO.closeL f s1.er } : SO.Sc) = s2 := ⟨_, rfl⟩
    rw [hs2] at CP HAK
    have HE : Hid ((SO.ackE s1 f).1 = SO.tellS s2 [SO.ack e0.asker e0.asked e0.node] ∧ (SO.ackE s1 f).2 = SO.tellL s2 [SO.ack e0.asker e0.asked e0.node]) := by show _ ∧ _; rw [HAK.out]; exact ⟨rfl, rfl⟩
    rw [HE.out.1, HE.out.2]
    obtain ⟨z, hz1, hz2⟩ := infoSn3
    have CA : Hid (∀ U, SX w p B W N s2 U → Calls Try.prog 33 #[.int .i64 e0.asker, .int .i64 e0.asked, .int .i64 e0.node] U fun e w' => e = .returned (.agg (snL e0.asker 2 0 e0.asked e0.node zM nilV).toArray) ∧ SX w p B W N s2 w') := fun U h => ack_sx h _ _ _
    have CT : Hid (∀ U V, SX w p B W N s2 U → V = U.alloc (.cells (snL e0.asker 2 0 e0.asked e0.node zM nilV).toArray tSn) → Calls Try.prog 18 #[.pointer (some ⟨p, 0, none⟩), .slice (some ⟨U.heap.size, 0, none⟩) 1 1] V fun e w' => Ans w p B W N (SO.tellS s2 [SO.ack e0.asker e0.asked e0.node]) (SO.tellL s2 [SO.ack e0.asker e0.asked e0.node]) e w') := fun U V h hV => tell1_sx h (SO.ack e0.asker e0.asked e0.node) _ rfl V hV
    have hL : (snL e0.asker 2 0 e0.asked e0.node zM nilV).length = 238 := snL_len zM_len
    generalize SO.tellS s2 [SO.ack e0.asker e0.asked e0.node] = R1 at *
    generalize SO.tellL s2 [SO.ack e0.asker e0.asked e0.node] = R2 at *
    generalize snL e0.asker 2 0 e0.asked e0.node zM nilV = L at *
    clear HAK HE HCN hfe hs2
    obtain ⟨es, en, eas, ead, ec⟩ := e0
    simp only at CA
    go_enter Try.func35, Try.ntmps35
    go_wp2_with fail
    refine wp_region_noPanic ?_
    refine wp_region_held_drew (S := fun U => U.rangeAt W.heap.size 0 FL) (by kernel_rfl) ((by first | exact HRG.out _ (HB.drewN 1) | exact (HB.drewN 1).1)) (fun hHeld => ?_)
    refine wpAnyH_take (i := 0) rfl (by kernel_rfl) (by kernel_rfl) (by kernel_rfl) (fun _ _ _ h => h) (yi_move (by kernel_rfl) rfl rfl) (by assumption) ?_
    simp only [Act.put, List.getElem_toArray, List.getElem_cons_succ, List.getElem_cons_zero, List.setIfInBounds_toArray, List.set_cons_zero, List.set_cons_succ]
    refine wpAnyH_take (i := 1) (v := ?_) rfl (by kernel_rfl) (by kernel_rfl) (by kernel_rfl) (fun _ _ _ h => h) (Or.inl ⟨by kernel_rfl, ?_⟩) (by assumption) ?_
    rotate_left
    · (intro w hSw; (try dsimp only at hSw); go_simp; (try with_reducible rfl))
    simp only [Act.put, List.getElem_toArray, List.getElem_cons_succ, List.getElem_cons_zero, List.setIfInBounds_toArray, List.set_cons_zero, List.set_cons_succ]
    refine wpAnyH_take (i := 2) (v := ?_) rfl (by kernel_rfl) (by kernel_rfl) (by kernel_rfl) (fun _ _ _ h => h) (Or.inl ⟨by kernel_rfl, ?_⟩) (by assumption) ?_
    rotate_left
    · (intro w hSw; (try dsimp only at hSw); go_simp; (try with_reducible rfl))
    simp only [Act.put, List.getElem_toArray, List.getElem_cons_succ, List.getElem_cons_zero, List.setIfInBounds_toArray, List.set_cons_zero, List.set_cons_succ]
    refine wpAnyH_take (i := 3) (v := .agg (List.toArray FL)) rfl (by kernel_rfl) (by kernel_rfl) (by kernel_rfl) (fun _ _ _ h => h) (yieldsIf_load_mid (by kernel_rfl) _ (.tmp 3) (by kernel_rfl) W.heap.size 0 (by kernel_rfl) FL _ (fun W hW => hW) humF rfl hiF) (by assumption) ?_
    simp only [Act.put, List.getElem_toArray, List.getElem_cons_succ, List.getElem_cons_zero, List.setIfInBounds_toArray, List.set_cons_zero, List.set_cons_succ]
    refine wpAnyH_ready (rs := [4]) (by kernel_rfl) (by simp) ?_
    refine AllReadyH.cons (o := _) rfl (fun K hK => ?_) AllReadyH.nil
    go_simp
    go_at_call 57; refine (CP.out _ (HB.drewN 1)).mono ?_; rintro e w3 ⟨rfl, HB5⟩
    refine hK.out _ _ ((by first | exact HRG.out _ HB5 | exact HB5.1)) (fun hHeld => ?_)
    clear hK K
    (try simp only [Act.put, List.getElem_toArray, List.getElem_cons_succ, List.getElem_cons_zero, List.setIfInBounds_toArray, List.set_cons_zero, List.set_cons_succ])
    refine wpAnyH_done (by kernel_rfl) ?_ _
    refine NoPanic.normal ?_
    obtain ⟨_, ev, hrk⟩ := HB5
    have RKH := hidI hrk
    clear hrk
    have HB3 : BW w3.heap.size w3 w3 := BW.refl (Nat.le_refl _)
    go_wp2_with fail
    refine wp_region_noPanic ?_
    refine wp_region_held_drew (S := fun U => U.cell? ⟨p, 18, none⟩ = some ev ∧ U.rangeAt W.heap.size 0 FL) (by kernel_rfl) ((by first | exact RKH.out.k3 _ (HB3.drewN 1) | exact (FC.out _ (HB3.drewN 1)).1)) (fun hHeld => ?_)
    refine wpAnyH_take (i := 0) rfl (by kernel_rfl) (by kernel_rfl) (by kernel_rfl) (fun _ _ _ h => h) (yi_move (by kernel_rfl) rfl rfl) (by assumption) ?_
    simp only [Act.put, List.getElem_toArray, List.getElem_cons_succ, List.getElem_cons_zero, List.setIfInBounds_toArray, List.set_cons_zero, List.set_cons_succ]
    refine wpAnyH_take (i := 1) (v := ?_) rfl (by kernel_rfl) (by kernel_rfl) (by kernel_rfl) (fun _ _ _ h => h) (Or.inl ⟨by kernel_rfl, ?_⟩) (by assumption) ?_
    rotate_left
    · (intro w hSw; (try dsimp only at hSw); go_simp; (try with_reducible rfl))
    simp only [Act.put, List.getElem_toArray, List.getElem_cons_succ, List.getElem_cons_zero, List.setIfInBounds_toArray, List.set_cons_zero, List.set_cons_succ]
    refine wpAnyH_take (i := 2) (v := ?_) rfl (by kernel_rfl) (by kernel_rfl) (by kernel_rfl) (fun _ _ _ h => h) (Or.inl ⟨by kernel_rfl, ?_⟩) (by assumption) ?_
    rotate_left
    · (intro w hSw; (try dsimp only at hSw); go_simp; (try with_reducible rfl))
    simp only [Act.put, List.getElem_toArray, List.getElem_cons_succ, List.getElem_cons_zero, List.setIfInBounds_toArray, List.set_cons_zero, List.set_cons_succ]
    refine wpAnyH_take (i := 3) (v := ?_) rfl (by kernel_rfl) (by kernel_rfl) (by kernel_rfl) (fun _ _ _ h => h) (Or.inl ⟨by kernel_rfl, ?_⟩) (by assumption) ?_
    rotate_left
    · (intro w hSw; obtain ⟨z1, z2⟩ := hSw; go_simp; (try with_reducible rfl))
    simp only [Act.put, List.getElem_toArray, List.getElem_cons_succ, List.getElem_cons_zero, List.setIfInBounds_toArray, List.set_cons_zero, List.set_cons_succ]
    refine wpAnyH_take (i := 4) (v := .agg (List.toArray FL)) rfl (by kernel_rfl) (by kernel_rfl) (by kernel_rfl) (fun _ _ _ h => h) (yieldsIf_load_mid (by kernel_rfl) _ (.tmp 3) (by kernel_rfl) W.heap.size 0 (by kernel_rfl) FL _ (fun W hW => hW.2) humF rfl hiF) (by assumption) ?_
    simp only [Act.put, List.getElem_toArray, List.getElem_cons_succ, List.getElem_cons_zero, List.setIfInBounds_toArray, List.set_cons_zero, List.set_cons_succ]
    refine wpAnyH_ready (rs := [5, 9]) (by kernel_rfl) (by simp) ?_
    refine AllReadyH.cons (o := _) rfl (fun K hK => ?_) ?_
    · go_simp
      go_at_call 58; refine (RKH.out.cl _ (HB3.drewN 1)).mono ?_; rintro e V6 ⟨he, HB6, FC, HK⟩; have he2 : e = .returned (.tuple #[.agg #[.int .i64 es, .int .i64 en, .int .i64 eas, .int .i64 ead, .bool ec], .bool true]) := he; subst he2; clear he; have HBV := HB6; (try have BX := HK.out _ _ (heap_alloc_new _ _))
      refine hK.out _ _ ((by first | exact RKH.out.k3 _ HB6 | exact (FC.out _ HB6).1)) (fun hHeld => ?_)
      clear hK K
      (try simp only [Act.put, List.getElem_toArray, List.getElem_cons_succ, List.getElem_cons_zero, List.setIfInBounds_toArray, List.set_cons_zero, List.set_cons_succ])
      refine wpAnyH_take (i := 6) rfl (by kernel_rfl) (by kernel_rfl) (by kernel_rfl) (fun _ _ _ h => h) (yi_move (by kernel_rfl) rfl rfl) (by assumption) ?_
      simp only [Act.put, List.getElem_toArray, List.getElem_cons_succ, List.getElem_cons_zero, List.setIfInBounds_toArray, List.set_cons_zero, List.set_cons_succ]
      refine wpAnyH_take (i := 7) (v := ?_) rfl (by kernel_rfl) (by kernel_rfl) (by kernel_rfl) (fun _ _ _ h => h) (Or.inl ⟨by kernel_rfl, ?_⟩) (by assumption) ?_
      rotate_left
      · (intro w hSw; (try dsimp only at hSw); go_simp; (try with_reducible rfl))
      simp only [Act.put, List.getElem_toArray, List.getElem_cons_succ, List.getElem_cons_zero, List.setIfInBounds_toArray, List.set_cons_zero, List.set_cons_succ]
      refine wpAnyH_take (i := 8) (v := ?_) rfl (by kernel_rfl) (by kernel_rfl) (by kernel_rfl) (fun _ _ _ h => h) (Or.inl ⟨by kernel_rfl, ?_⟩) (by assumption) ?_
      rotate_left
      · (intro w hSw; (try dsimp only at hSw); go_simp; (try with_reducible rfl))
      simp only [Act.put, List.getElem_toArray, List.getElem_cons_succ, List.getElem_cons_zero, List.setIfInBounds_toArray, List.set_cons_zero, List.set_cons_succ]
      refine wpAnyH_ready (rs := [9]) (by kernel_rfl) (by simp) ?_
      refine AllReadyH.cons (o := _) rfl (fun K hK => ?_) AllReadyH.nil
      go_simp
      refine hK.out _ _ ((by first | exact RKH.out.k3 _ ((HB6).alloc _) | exact (FC.out _ ((HB6).alloc _)).1)) (fun hHeld => ?_)
      clear hK K
      (try simp only [Act.put, List.getElem_toArray, List.getElem_cons_succ, List.getElem_cons_zero, List.setIfInBounds_toArray, List.set_cons_zero, List.set_cons_succ])
      refine wpAnyH_ready (rs := [10]) (by kernel_rfl) (by simp) ?_
      refine AllReadyH.cons (o := _) rfl (fun K hK => ?_) AllReadyH.nil
      refine stepo_storeR rfl tEr _ _ rfl _ #[.int .i64 es, .int .i64 en, .int .i64 eas, .int .i64 ead, .bool ec] (by rfl) (by rfl) tEr #[.int .i64 0, .int .i64 0, .int .i64 0, .int .i64 0, .bool false] (by first | exact BX | exact heap_alloc_new _ _) infoEr rfl (by simp [Value.oneCell']) (hK.out _ _ ((by first | exact RKH.out.k3 _ ((((HB6).alloc _)).row _ _ (by first | exact Nat.le_refl _ | exact HBV.le)) | exact (FC.out _ ((((HB6).alloc _)).row _ _ (by first | exact Nat.le_refl _ | exact HBV.le))).1)) (fun hHeld => ?_))
      clear hK K
      (try simp only [Act.put, List.getElem_toArray, List.getElem_cons_succ, List.getElem_cons_zero, List.setIfInBounds_toArray, List.set_cons_zero, List.set_cons_succ])
      refine wpAnyH_take (i := 11) rfl (by kernel_rfl) (by kernel_rfl) (by kernel_rfl) (fun _ _ _ h => h) (yi_assign (by kernel_rfl) rfl rfl) (by assumption) ?_
      simp only [Act.put, List.getElem_toArray, List.getElem_cons_succ, List.getElem_cons_zero, List.setIfInBounds_toArray, List.set_cons_zero, List.set_cons_succ]
      refine wpAnyH_done (by kernel_rfl) ?_ _
      refine NoPanic.normal ?_
      (try rw [World.setRow_alloc_new])
      first | (have BM := cells5 (setRow_heap _ _ _ #[.int .i64 es, .int .i64 en, .int .i64 eas, .int .i64 ead, .bool ec] _ _ BX); have m1 := BM.1; have m2 := BM.2.1; have m3 := BM.2.2; clear BM) | skip
      go_wp2_with (first
        | (go_at_call 33; refine (CA.out _ (by first | exact (FC.out _ (((((HB6).alloc _)).row _ _ (by first | exact Nat.le_refl _ | exact HBV.le)))).2 | exact (FC.out _ (HBV.alloc _)).2)).mono ?_; rintro e w6 ⟨rfl, h6⟩; have HX := hidI h6; clear h6)
        | (refine wl_bs1 rfl 33 tSn _ rfl L 238 408 (.agg z) undSs hz1 hL (by omega) (by omega) rfl ?_)
        | (go_at_call 18; refine (CT.out _ _ HX.out rfl).mono ?_; clear HX; rintro e w7 h7; obtain ⟨a7, c7, ys7, B7, rfl, h8⟩ := h7; have H8 := hidI h8; clear h8))
      go_ret
      exact ⟨a7, c7, ys7, B7, rfl, H8.out⟩
    refine AllReadyH.cons (o := _) rfl (fun K hK => ?_) ?_
    · go_simp
      refine hK.out _ _ ((by first | exact RKH.out.k3 _ (((HB3.drewN 1)).alloc _) | exact (FC.out _ (((HB3.drewN 1)).alloc _)).1)) (fun hHeld => ?_)
      clear hK K
      (try simp only [Act.put, List.getElem_toArray, List.getElem_cons_succ, List.getElem_cons_zero, List.setIfInBounds_toArray, List.set_cons_zero, List.set_cons_succ])
      refine wpAnyH_ready (rs := [5]) (by kernel_rfl) (by simp) ?_
      refine AllReadyH.cons (o := _) rfl (fun K hK => ?_) AllReadyH.nil
      go_simp
      go_at_call 58; refine (RKH.out.cl _ (((HB3.drewN 1)).alloc _)).mono ?_; rintro e V13 ⟨he, HB13, FC, HK⟩; have he2 : e = .returned (.tuple #[.agg #[.int .i64 es, .int .i64 en, .int .i64 eas, .int .i64 ead, .bool ec], .bool true]) := he; subst he2; clear he; have HBV := HB13; (try have BX := HK.out _ _ (heap_alloc_new _ _))
      refine hK.out _ _ ((by first | exact RKH.out.k3 _ HB13 | exact (FC.out _ HB13).1)) (fun hHeld => ?_)
      clear hK K
      (try simp only [Act.put, List.getElem_toArray, List.getElem_cons_succ, List.getElem_cons_zero, List.setIfInBounds_toArray, List.set_cons_zero, List.set_cons_succ])
      refine wpAnyH_take (i := 6) rfl (by kernel_rfl) (by kernel_rfl) (by kernel_rfl) (fun _ _ _ h => h) (yi_move (by kernel_rfl) rfl rfl) (by assumption) ?_
      simp only [Act.put, List.getElem_toArray, List.getElem_cons_succ, List.getElem_cons_zero, List.setIfInBounds_toArray, List.set_cons_zero, List.set_cons_succ]
      refine wpAnyH_take (i := 7) (v := ?_) rfl (by kernel_rfl) (by kernel_rfl) (by kernel_rfl) (fun _ _ _ h => h) (Or.inl ⟨by kernel_rfl, ?_⟩) (by assumption) ?_
      rotate_left
      · (intro w hSw; (try dsimp only at hSw); go_simp; (try with_reducible rfl))
      simp only [Act.put, List.getElem_toArray, List.getElem_cons_succ, List.getElem_cons_zero, List.setIfInBounds_toArray, List.set_cons_zero, List.set_cons_succ]
      refine wpAnyH_take (i := 8) (v := ?_) rfl (by kernel_rfl) (by kernel_rfl) (by kernel_rfl) (fun _ _ _ h => h) (Or.inl ⟨by kernel_rfl, ?_⟩) (by assumption) ?_
      rotate_left
      · (intro w hSw; (try dsimp only at hSw); go_simp; (try with_reducible rfl))
      simp only [Act.put, List.getElem_toArray, List.getElem_cons_succ, List.getElem_cons_zero, List.setIfInBounds_toArray, List.set_cons_zero, List.set_cons_succ]
      refine wpAnyH_ready (rs := [10]) (by kernel_rfl) (by simp) ?_
      refine AllReadyH.cons (o := _) rfl (fun K hK => ?_) AllReadyH.nil
      refine stepo_storeR rfl tEr _ _ rfl _ #[.int .i64 es, .int .i64 en, .int .i64 eas, .int .i64 ead, .bool ec] (by rfl) (by rfl) tEr #[.int .i64 0, .int .i64 0, .int .i64 0, .int .i64 0, .bool false] (by first | exact BX | exact heap_alloc_new _ _) infoEr rfl (by simp [Value.oneCell']) (hK.out _ _ ((by first | exact RKH.out.k3 _ ((HB13).row _ _ (by first | exact Nat.le_refl _ | exact HBV.le)) | exact (FC.out _ ((HB13).row _ _ (by first | exact Nat.le_refl _ | exact HBV.le))).1)) (fun hHeld => ?_))
      clear hK K
      (try simp only [Act.put, List.getElem_toArray, List.getElem_cons_succ, List.getElem_cons_zero, List.setIfInBounds_toArray, List.set_cons_zero, List.set_cons_succ])
      refine wpAnyH_take (i := 11) rfl (by kernel_rfl) (by kernel_rfl) (by kernel_rfl) (fun _ _ _ h => h) (yi_assign (by kernel_rfl) rfl rfl) (by assumption) ?_
      simp only [Act.put, List.getElem_toArray, List.getElem_cons_succ, List.getElem_cons_zero, List.setIfInBounds_toArray, List.set_cons_zero, List.set_cons_succ]
      refine wpAnyH_done (by kernel_rfl) ?_ _
      refine NoPanic.normal ?_
      (try rw [World.setRow_alloc_new])
      first | (have BM := cells5 (setRow_heap _ _ _ #[.int .i64 es, .int .i64 en, .int .i64 eas, .int .i64 ead, .bool ec] _ _ BX); have m1 := BM.1; have m2 := BM.2.1; have m3 := BM.2.2; clear BM) | skip
      go_wp2_with (first
        | (go_at_call 33; refine (CA.out _ (by first | exact (FC.out _ (((HB13).row _ _ (by first | exact Nat.le_refl _ | exact HBV.le)))).2 | exact (FC.out _ (HBV.alloc _)).2)).mono ?_; rintro e w6 ⟨rfl, h6⟩; have HX := hidI h6; clear h6)
        | (refine wl_bs1 rfl 33 tSn _ rfl L 238 408 (.agg z) undSs hz1 hL (by omega) (by omega) rfl ?_)
        | (go_at_call 18; refine (CT.out _ _ HX.out rfl).mono ?_; clear HX; rintro e w7 h7; obtain ⟨a7, c7, ys7, B7, rfl, h8⟩ := h7; have H8 := hidI h8; clear h8))
      go_ret
      exact ⟨a7, c7, ys7, B7, rfl, H8.out⟩
    exact AllReadyH.nil
end Go.Proofs.Ytfpjknfgiciokaa

/- Hear. -/
namespace Go.Proofs.Ytfpjknfgiciokaa
open Go.RowKit Go.Maps
set_option linter.unusedVariables false
set_option linter.unusedSimpArgs false

theorem SX.drewN {w W U : World} {p N : Nat} {B : Nat → Prop} {s : SO.Sc} (h : SX w p B W N s U) (k : Nat) : SX w p B W N s (U.drewN k) := h.grow ((Bl.refl U).drewN k)
theorem SX.alloc {w W U : World} {p N : Nat} {B : Nat → Prop} {s : SO.Sc} (h : SX w p B W N s U) (ob : Obj) : SX w p B W N s (U.alloc ob) := h.grow ((Bl.refl U).alloc ob)
theorem of_sx {w W U : World} {p N : Nat} {B : Nat → Prop} {s : SO.Sc} (x : SX w p B W N s U) (k : Int) (hk : i64 k) : Calls Try.prog 30 #[.pointer (some ⟨p, 0, none⟩), .int .i64 k] U fun e w' => e = .returned (.agg (meV (SO.of s k))) ∧ SX w p B W N s w' := by
  obtain ⟨B', ⟨P', X⟩, O⟩ := id x
  refine (of_x X k hk).mono ?_
  rintro e w' ⟨rfl, hb⟩
  exact ⟨rfl, x.grow hb⟩
theorem hasLeft_sx {w W U : World} {p N : Nat} {B : Nat → Prop} {s : SO.Sc} (x : SX w p B W N s U) : Calls Try.prog 22 #[.pointer (some ⟨p, 0, none⟩)] U fun e w' => e = .returned (.bool (SO.left s)) ∧ SX w p B W N s w' := by
  obtain ⟨B', ⟨P', X⟩, O⟩ := id x
  refine (hasLeft_x X).mono ?_
  rintro e w' ⟨rfl, hb⟩
  exact ⟨rfl, x.grow hb⟩
theorem hearRumour_sx {w W U : World} {p N : Nat} {B : Nat → Prop} {s : SO.Sc} (x : SX w p B W N s U) (hN : N ≤ 100000000000) (m : K.Me) (h1 : i64 m.1) (h2 : i64 m.2.1) : Calls Try.prog 32 #[.pointer (some ⟨p, 0, none⟩), .agg (meV m)] U fun e w' => e = .returned (.tuple #[]) ∧ SX w p B W (N + 2) (SO.rum s m) w' := by
  obtain ⟨B', ⟨P', X⟩, O⟩ := x
  refine (hearRumour_x X hN m h1 h2).mono ?_
  rintro e w' ⟨rfl, hb⟩
  exact ⟨rfl, SX.trans O hb⟩
theorem hearAck_sx {w W U : World} {p N : Nat} {B : Nat → Prop} {s : SO.Sc} (x : SX w p B W N s U) (FL : List Value) (f : SO.Fr) (a : Option Addr) (c : Nat) (hf : FrC FL f a c) : Calls Try.prog 35 #[.pointer (some ⟨p, 0, none⟩), .agg FL.toArray] U fun e w' => Ans w p B W N (SO.ackE (SO.pHear s f) f).1 (SO.ackE (SO.pHear s f) f).2 e w' := by
  obtain ⟨B', ⟨P', X⟩, O⟩ := x
  exact (hearAck_x X FL f a c hf).mono fun e w' h => Ans.from O h
theorem tellS_me : ∀ (l : List SO.Fr) (s : SO.Sc), (SO.tellS s l).me = s.me
  | [], s => rfl
  | y :: r, s => by show (SO.tellS (SO.tell1 s y).1 r).me = _; rw [tellS_me]; rfl
theorem learn_me (s : SO.Sc) (m : K.Me) : (SO.learn s m).me = s.me := by unfold SO.learn; split <;> rfl
theorem rum_me (s : SO.Sc) (m : K.Me) : (SO.rum s m).me = s.me := by
  have h1 : (SO.rum1 s m).me = s.me := by unfold SO.rum1; split <;> first | exact learn_me s m | rfl
  have h2 : ∀ s' : SO.Sc, (SO.rum2 s' m).me = s'.me := fun s' => by unfold SO.rum2; split <;> rfl
  have h3 : ∀ s' : SO.Sc, (SO.rum3 s' m).me = s'.me := fun s' => by unfold SO.rum3; split <;> first | exact learn_me s' _ | rfl
  unfold SO.rum
  split
  · exact h1
  · rw [h3, h2, h1]
theorem rums_take {s : SO.Sc} {l : List K.Me} {k : Nat} {m : K.Me} (h : l[k]? = some m) : SO.rums s (l.take (k + 1)) = SO.rum (SO.rums s (l.take k)) m := by
  unfold SO.rums
  rw [List.take_add_one, h, Option.toList_some, List.foldl_append]; rfl
theorem SX.drew {w W U : World} {p N : Nat} {B : Nat → Prop} {s : SO.Sc} (h : SX w p B W N s U) : SX w p B W N s U.drew := h.grow ((Bl.refl U).drew)
theorem isOther_sx {w W U : World} {p N : Nat} {B : Nat → Prop} {s : SO.Sc} (x : SX w p B W N s U) (k : Int) : Calls Try.prog 29 #[.pointer (some ⟨p, 0, none⟩), .int .i64 k] U fun e w' => e = .returned (.bool (SO.other s k)) ∧ SX w p B W N s w' := by
  obtain ⟨B', ⟨P', X⟩, O⟩ := id x
  refine (isOther_x X k).mono ?_
  rintro e w' ⟨rfl, rfl⟩
  exact ⟨rfl, x⟩
theorem rums_me (s : SO.Sc) : ∀ l : List K.Me, (SO.rums s l).me = s.me := fun l => by
  unfold SO.rums
  induction l generalizing s with
  | nil => rfl
  | cons m r ih => rw [List.foldl_cons, ih, rum_me]
theorem heed_me (s : SO.Sc) (f : SO.Fr) : (SO.heed s f).me = s.me := by unfold SO.heed; split <;> rfl
/-- what stays through a frame's hearing -/
structure HeC (w : World) (p : Nat) (B : Nat → Prop) (W1 : World) (fb : Nat) (FL : List Value) (a : Option Addr) (c : Nat) (kind frm seq : Int) (rm : List K.Me) : Prop where
  kk : ∀ N s U, SX w p B W1 N s U → U.cell? ⟨fb, 0, none⟩ = some (.int .i64 kind) ∧ U.cell? ⟨fb, 1, none⟩ = some (.int .i64 frm) ∧ U.cell? ⟨fb, 2, none⟩ = some (.int .i64 seq) ∧ U.cell? ⟨fb, 236, none⟩ = some (.slice a rm.length c)
  box : ∀ N s U, SX w p B W1 N s U → U.heap[fb]? = some (.cells FL.toArray tFr (0, 0))
  rs : ∀ N s U, SX w p B W1 N s U → RS lyM U a rm
  me : ∀ N s U, SX w p B W1 N s U → U.cell? ⟨p, 10, none⟩ = some (.int .i64 s.me)
theorem heC {w W : World} {p N : Nat} {P : Pl} {B : Nat → Prop} {s : SO.Sc} (x : S0 w p P B N s W) (FL : List Value) (f : SO.Fr) (a : Option Addr) (c : Nat) (hf : FrC FL f a c) (hr : RS lyM W a f.rum) (ha : ∀ g off, a = some ⟨g, off, none⟩ → f.rum ≠ [] → ¬ B g) : HeC w p B (W.alloc (.cells FL.toArray tFr)) W.heap.size FL a c f.kind f.frm f.seq f.rum := by
  have hbx : (W.alloc (.cells FL.toArray tFr)).heap[W.heap.size]? = some (.cells FL.toArray tFr (0, 0)) := heap_alloc_new _ _
  have hnb : ¬ B W.heap.size := fun h => by have := (x.Bo _ h).2; omega
  have box : ∀ N s U, SX w p B (W.alloc (.cells FL.toArray tFr)) N s U → U.heap[W.heap.size]? = some (.cells FL.toArray tFr (0, 0)) := fun N s U h => by
    obtain ⟨B', _, o⟩ := h
    exact (o.block _ (lt_heap hbx) hnb).trans hbx
  refine ⟨fun N s U h => ?_, box, fun N s U h => ?_, fun N s U h => ?_⟩
  · have b := box N s U h
    exact ⟨cellL b hf.k0, cellL b hf.k1, cellL b hf.k2, cellL b hf.kr⟩
  · intro i m hm
    obtain ⟨b, off, hab, hlt, hrg⟩ := hr i m hm
    obtain ⟨B', _, o⟩ := h
    have e1 : U.heap[b]? = W.heap[b]? := by
      rw [o.block b (by have := ((Bl.refl W).alloc (.cells FL.toArray tFr)).size; omega) (ha b off hab (fun e => by rw [e] at hm; simp at hm))]
      exact ((Bl.refl W).alloc (.cells FL.toArray tFr)).block b hlt
    refine ⟨b, off, hab, by have := o.size; have := ((Bl.refl W).alloc (.cells FL.toArray tFr)).size; omega, fun j v hv => ?_⟩
    have := hrg j v hv
    simp only [World.cell?] at this ⊢
    rw [e1]; exact this
  · obtain ⟨B', ⟨P', X⟩, O⟩ := h
    exact X.c10
theorem Hear_nil (v : Value) (hv : ∃ C, v = .agg C) (W : World) : Calls Try.prog 14 #[.pointer none, v] W fun e w' => e = .returned (.slice none 0 0) ∧ Bl W w' := by
  obtain ⟨C, rfl⟩ := hv
  have HA : Hid (∀ o, Bl W (W.alloc o)) := fun o => (Bl.refl W).alloc o
  go_enter Try.func14, Try.ntmps14
  go_wp2_with fail
  go_ret
  exact ⟨rfl, HA.out _⟩
/-- behind the rumours: what Hear does -/
structure HeD (w : World) (p : Nat) (B : Nat → Prop) (W1 : World) (M : Nat) (t : SO.Sc) (L : List Value) (frm seq : Int) : Prop where
  left : ∀ U, SX w p B W1 M t U → Calls Try.prog 22 #[.pointer (some ⟨p, 0, none⟩)] U fun e w' => e = .returned (.bool (SO.left t)) ∧ SX w p B W1 M t w'
  ack : ∀ U, SX w p B W1 M t U → Calls Try.prog 33 #[.int .i64 frm, .int .i64 seq, .int .i64 t.me] U fun e w' => e = .returned (.agg L.toArray) ∧ SX w p B W1 M t w'
  tell : ∀ U V, SX w p B W1 M t U → V = U.alloc (.cells L.toArray tSn) → Calls Try.prog 18 #[.pointer (some ⟨p, 0, none⟩), .slice (some ⟨U.heap.size, 0, none⟩) 1 1] V fun e w' => Ans w p B W1 M (SO.tellS t [SO.ack frm seq t.me]) (SO.tellL t [SO.ack frm seq t.me]) e w'
  len : L.length = 238
theorem heD {w W1 : World} {p M : Nat} {B : Nat → Prop} {t : SO.Sc} {frm seq : Int} : HeD w p B W1 M t (snL frm 2 0 seq t.me zM nilV) frm seq :=
  ⟨fun U h => hasLeft_sx h, fun U h => ack_sx h _ _ _, fun U V h hV => tell1_sx h (SO.ack frm seq t.me) _ rfl V hV, snL_len zM_len⟩
set_option maxRecDepth 8000 in
set_option maxHeartbeats 8000000 in
theorem Hear_x {w W : World} {p : Nat} {P : Pl} {B : Nat → Prop} {N : Nat} {s : SO.Sc} (x : S0 w p P B N s W) (hN : N ≤ 10000000000) (FL : List Value) (f : SO.Fr) (a : Option Addr) (c : Nat) (hf : FrC FL f a c) (hfr : i64 f.frm) (hr : RS lyM W a f.rum) (ha : ∀ g off, a = some ⟨g, off, none⟩ → f.rum ≠ [] → ¬ B g) (hi : ∀ m ∈ f.rum, i64 m.1 ∧ i64 m.2.1) (hl : f.rum.length ≤ 1000)
    (CE : f.kind = 3 → ∀ M t U, M ≤ 20000000000 → SX w p B (W.alloc (.cells FL.toArray tFr)) M t U → Calls Try.prog 34 #[.pointer (some ⟨p, 0, none⟩), .agg FL.toArray] U fun e w' => Ans w p B (W.alloc (.cells FL.toArray tFr)) (M + 1) (SO.errand t f).1 (SO.errand t f).2 e w') :
    Calls Try.prog 14 #[.pointer (some ⟨p, 0, none⟩), .agg FL.toArray] W fun e w' => Ans w p B W (N + 2 * f.rum.length + 1) (SO.hear s f).1 (SO.hear s f).2 e w' := by
  have hb0 : Bl W (W.alloc (.cells FL.toArray tFr)) := (Bl.refl W).alloc _
  have HK := hidI (heC x FL f a c hf hr ha)
  have H0 : Hid (SX w p B (W.alloc (.cells FL.toArray tFr)) N s (W.alloc (.cells FL.toArray tFr))) := SX.refl ⟨P, x.grow hb0⟩
  have HFIN : Hid (∀ M t fs e w', M ≤ N + 2 * f.rum.length + 1 → Ans w p B (W.alloc (.cells FL.toArray tFr)) M t fs e w' → Ans w p B W (N + 2 * f.rum.length + 1) t fs e w') := fun M t fs e w' hM h => (Ans.from (OS.of_bl hb0) h).more hM
  have HCA : Hid (∀ M t U, SX w p B (W.alloc (.cells FL.toArray tFr)) M t U → Calls Try.prog 35 #[.pointer (some ⟨p, 0, none⟩), .agg FL.toArray] U fun e w' => Ans w p B (W.alloc (.cells FL.toArray tFr)) M (SO.ackE (SO.pHear t f) f).1 (SO.ackE (SO.pHear t f) f).2 e w') := fun M t U h => hearAck_sx h FL f a c hf
  have HCE := hidI CE
  obtain ⟨fs0, humF⟩ := undFr
  have hiF : (Try.prog.info? tFr).map (·.size) = some FL.toArray.size := by rw [List.size_toArray, hf.len]; exact infoFr
  have C1 : Hid (∀ U, SX w p B (W.alloc (.cells FL.toArray tFr)) N s U → Calls Try.prog 29 #[.pointer (some ⟨p, 0, none⟩), .int .i64 f.frm] U fun e w' => e = .returned (.bool (SO.other s f.frm)) ∧ SX w p B (W.alloc (.cells FL.toArray tFr)) N s w') := fun U h => isOther_sx h _
  have C2 : Hid (∀ U, SX w p B (W.alloc (.cells FL.toArray tFr)) N s U → Calls Try.prog 30 #[.pointer (some ⟨p, 0, none⟩), .int .i64 f.frm] U fun e w' => e = .returned (.agg (meV (SO.of s f.frm))) ∧ SX w p B (W.alloc (.cells FL.toArray tFr)) N s w') := fun U h => of_sx h _ hfr
  have C3 : Hid (∀ U, SX w p B (W.alloc (.cells FL.toArray tFr)) N s U → Calls Try.prog 31 #[.pointer (some ⟨p, 0, none⟩), .int .i64 f.frm] U fun e w' => e = .returned (.tuple #[]) ∧ SX w p B (W.alloc (.cells FL.toArray tFr)) N (SO.remind s f.frm) w') := fun U h => remind_sx h _ hfr
  have C4 : Hid (∀ M t m U, M ≤ 100000000000 → m ∈ f.rum → SX w p B (W.alloc (.cells FL.toArray tFr)) M t U → Calls Try.prog 32 #[.pointer (some ⟨p, 0, none⟩), .agg (meV m)] U fun e w' => e = .returned (.tuple #[]) ∧ SX w p B (W.alloc (.cells FL.toArray tFr)) (M + 2) (SO.rum t m) w') := fun M t m U hM hm h => hearRumour_sx h hM m (hi m hm).1 (hi m hm).2
  have HH : Hid (SO.hear s f = if SO.other s f.frm = true then (if SO.left (SO.rums (SO.heed s f) f.rum) = true then (SO.rums (SO.heed s f) f.rum, []) else SO.act (SO.rums (SO.heed s f) f.rum) f) else (s, [])) := rfl
  have HHE : Hid (SO.heed s f = if ((SO.of s f.frm).2.2 == 0) = true then s else SO.remind s f.frm) := rfl
  have HM : Hid ((SO.rums (SO.heed s f) f.rum).me = s.me) := by show _ = _; rw [rums_me, heed_me]
  have q1 : FL[1]? = some (.int .i64 f.frm) := hf.k1
  have q2 : FL.toArray[1]? = some (.int .i64 f.frm) := by simpa using hf.k1
  have q3 : (W.alloc (.cells FL.toArray tFr)).cell? ⟨W.heap.size, 1, none⟩ = some (.int .i64 f.frm) := (HK.out.kk N s _ H0.out).2.1
  clear hf hr ha hi CE x hfr hb0
  cases ho : SO.other s f.frm with
  | false =>
    rw [ho] at C1 HH
    have HE : Hid ((SO.hear s f).1 = s ∧ (SO.hear s f).2 = []) := by show _ ∧ _; rw [HH.out]; exact ⟨rfl, rfl⟩
    rw [HE.out.1, HE.out.2]
    clear HH HHE HE ho HM C2 C3 C4 HCE HCA
    go_enter Try.func14, Try.ntmps14
    go_wp2_with (go_at_call 29; refine (C1.out _ H0.out).mono ?_; clear C1 H0; rintro e w1 ⟨rfl, h1⟩; have H1 := hidI h1; clear h1)
    go_ret
    exact HFIN.out N s [] _ _ (by omega) (ans_none H1.out)
  | true =>
    rw [ho] at C1 HH
    obtain ⟨s1, hs1⟩ : ∃ s1, SO.heed s f = s1 := ⟨_, rfl⟩
    rw [hs1] at HH HHE HM
    obtain ⟨t, ht⟩ : ∃ t, SO.rums s1 f.rum = t := ⟨_, rfl⟩
    rw [ht] at HH HM
    have HT := hidI ht
    have D := hidI (heD (w := w) (W1 := W.alloc (.cells FL.toArray tFr)) (p := p) (M := N + 2 * f.rum.length) (B := B) (t := t) (frm := f.frm) (seq := f.seq))
    obtain ⟨L, hL⟩ : ∃ L, snL f.frm 2 0 f.seq t.me zM nilV = L := ⟨_, rfl⟩
    rw [hL] at D
    obtain ⟨hs, hhs⟩ : ∃ hs, SO.hear s f = hs := ⟨_, rfl⟩
    rw [hhs] at HH ⊢
    have HACT : Hid (SO.act t f = if f.kind = 1 then (SO.tellS t [SO.ack f.frm f.seq t.me], SO.tellL t [SO.ack f.frm f.seq t.me]) else if f.kind = 3 then SO.errand t f else if f.kind = 2 then SO.ackE (SO.pHear t f) f else (t, [])) := rfl
    have HH2 : Hid (hs = if SO.left t = true then (t, []) else SO.act t f) := by show _ = _; rw [HH.out]; rfl
    clear hL hhs HH ho hs1 ht
    obtain ⟨z, hz1, hz2⟩ := infoSn3
    have hLl : L.length = 238 := D.out.len
    obtain ⟨mo, hmo⟩ : ∃ mo, SO.of s f.frm = mo := ⟨_, rfl⟩
    rw [hmo] at C2 HHE
    clear hmo
    obtain ⟨n, i, st⟩ := mo
    unfold meV at C2
    simp only at C2 HHE
    have hfl : ∀ W, (Instr.field 38 (.agg #[.int .i64 n, .int .i64 i, .int .i64 st]) 2).run Try.prog W = .ok (.int .i64 st) W := fun W => by kernel_rfl
    obtain ⟨zz, hzz⟩ : ∃ zz, (st == 0) = zz := ⟨_, rfl⟩
    rw [hzz] at HHE
    generalize hkind : f.kind = kind at *
    generalize f.frm = frm at *
    generalize f.seq = seq at *
    generalize f.rum = rm at *
    go_enter Try.func14, Try.ntmps14
    go_wp2_with (go_at_call 29; refine (C1.out _ H0.out).mono ?_; clear C1 H0 q1 q2 q3; rintro e w1 ⟨rfl, h1⟩; have H1 := hidI h1; clear h1)
    generalize W.alloc (.cells FL.toArray tFr) = W1 at *
    generalize W.heap.size = fb at *
    have k1 := (HK.out.kk _ _ _ H1.out.drew).2.1
    go_region_with (go_at_call 30; refine (C2.out _ ?_).mono ?_; exact (H1.out.drew); rintro e w2 ⟨rfl, h2⟩; have H2 := hidI h2; clear h2)
    clear k1 H1 C2
    cases zz with
    | true =>
      have hzn : (st != 0) = false := by unfold bne; rw [hzz]; rfl
      have HS1 : Hid (s1 = s) := by show _ = _; rw [HHE.out]; rfl
      have H3 : Hid (SX w p B W1 N s1 w2) := by show SX _ _ _ _ _ _ _; rw [HS1.out]; exact H2.out
      clear C3 H2 HS1 HHE
      have k236 := (HK.out.kk _ _ _ H3.out).2.2.2
      go_wp2_with fail
      (try simp only [Act.put, List.getElem_toArray, List.getElem_cons_succ, List.getElem_cons_zero, List.setIfInBounds_toArray, List.set_cons_zero, List.set_cons_succ])
      go_loopw [6, 33] (fun _ u33 wr => ∃ k : Nat, k ≤ rm.length ∧ u33 = .int .i64 (k : Int) ∧ SX w p B W1 (N + 2 * k) (SO.rums s1 (rm.take k)) wr) (fun _ u33 _ => rm.length - (intOf u33).toNat)
      case atStart => exact ⟨0, by omega, rfl, H3.out⟩
      case round =>
       obtain ⟨k, hk, rfl, hx⟩ := hrel
       clear H3 k236
       by_cases hlt : k < rm.length
       · obtain ⟨m, hm⟩ : ∃ m, rm[k]? = some m := ⟨rm[k], List.getElem?_eq_getElem hlt⟩
         obtain ⟨b, off, rfl, hbb, hrg⟩ := HK.out.rs _ _ _ hx k m hm
         have HRG := hidI hrg
         have CR := hidI (fun U (hU : SX w p B W1 (N + 2 * k) (SO.rums s1 (rm.take k)) U) => C4.out _ _ m U (by omega) (List.mem_of_getElem? hm) hU)
         have HRT : Hid (SO.rums s1 (rm.take (k + 1)) = SO.rum (SO.rums s1 (rm.take k)) m) := rums_take hm
         have HGR : Hid (∀ U, Bl wr U → SX w p B W1 (N + 2 * k) (SO.rums s1 (rm.take k)) U) := fun U h => hx.grow h
         have HBX : Hid (∀ o, Bl wr (wr.alloc o)) := fun o => (Bl.refl wr).alloc o
         obtain ⟨mn, mi, ms⟩ := m
         unfold meV at CR
         simp only at CR
         have HRG2 : Hid (wr.rangeAt b (off + k * 3) [.int .i64 mn, .int .i64 mi, .int .i64 ms]) := HRG.out
         obtain ⟨fsm, humM⟩ := undMe
         clear hm hrg HRG hx C4 D HK HH2 HFIN HCE HCA
         go_wp2_with (first
           | (refine wpList_load_mid rfl 38 _ rfl b (off + k * 3) rfl [.int .i64 mn, .int .i64 mi, .int .i64 ms] _ HRG2.out humM rfl infoMe ?_; clear HRG2)
           | (go_at_call 32; refine (CR.out _ (HGR.out _ (HBX.out _))).mono ?_; clear CR; rintro e w5 ⟨rfl, h5⟩; have H5 := hidI h5; clear h5))
         go_roundw
         case rel => exact ⟨k + 1, by omega, by go_num, by rw [HRT.out]; exact H5.out⟩
         case measure => simp [intOf]; omega
       · obtain rfl : k = rm.length := by omega
         rw [List.take_length, HT.out] at hx
         have H6 := hidI hx
         clear hx C4
         cases hlf : SO.left t with
         | true =>
           have CLF := hidI (D.out.left wr H6.out)
           rw [hlf] at CLF HH2
           have HE : Hid (hs.1 = t ∧ hs.2 = []) := by show _ ∧ _; rw [HH2.out]; exact ⟨rfl, rfl⟩
           clear D HK HH2 HCE HCA H6
           go_wp2_with (go_at_call 22; refine (CLF.out).mono ?_; clear CLF; rintro e w6 ⟨rfl, h6⟩; have H6 := hidI h6; clear h6)
           go_ret
           rw [HE.out.1, HE.out.2]
           exact HFIN.out _ t [] _ _ (by omega) (ans_none H6.out)
         | false =>
           have CLF : Hid (Calls Try.prog 22 #[.pointer (some ⟨p, 0, none⟩)] wr fun e w' => e = .returned (.bool false) ∧ SX w p B W1 (N + 2 * rm.length) t w' ∧ w'.cell? ⟨fb, 0, none⟩ = some (.int .i64 kind)) := (D.out.left wr H6.out).mono fun e w' ⟨h1, h2⟩ => ⟨by rw [h1, hlf], h2, (HK.out.kk _ _ _ h2).1⟩
           rw [hlf] at HH2
           have HE : Hid (hs = SO.act t f) := by show _ = _; rw [HH2.out]; rfl
           clear HH2 H6
           go_upto_region 13 with (go_at_call 22; refine (CLF.out).mono ?_; clear CLF; rintro e w6 ⟨rfl, h6, k0⟩; have H6 := hidI h6; clear h6)
           rcases Classical.em (kind = 1) with hk1 | hk1
           · have HEA : Hid (SO.act t f = (SO.tellS t [SO.ack frm seq t.me], SO.tellL t [SO.ack frm seq t.me])) := by show _ = _; rw [HACT.out, if_pos hk1]
             have g1 : (kind == 1) = true := by rw [hk1]; rfl
             have HB : SX w p B W1 (N + 2 * rm.length) t w6 := H6.out
             have SK : Hid (∀ U, SX w p B W1 (N + 2 * rm.length) t U → U.cell? ⟨fb, 1, none⟩ = some (.int .i64 frm) ∧ U.cell? ⟨fb, 2, none⟩ = some (.int .i64 seq) ∧ U.cell? ⟨p, 10, none⟩ = some (.int .i64 t.me)) := fun U h => ⟨(HK.out.kk _ _ _ h).2.1, (HK.out.kk _ _ _ h).2.2.1, HK.out.me _ _ _ h⟩
             have SK2 : Hid (∀ e U, Ans w p B W1 (N + 2 * rm.length) (SO.tellS t [SO.ack frm seq t.me]) (SO.tellL t [SO.ack frm seq t.me]) e U → U.cell? ⟨fb, 1, none⟩ = some (.int .i64 frm) ∧ U.cell? ⟨fb, 2, none⟩ = some (.int .i64 seq) ∧ U.cell? ⟨p, 10, none⟩ = some (.int .i64 t.me)) := fun e U h => by
               obtain ⟨_, _, _, B', _, x', o', _⟩ := h
               have h' : SX w p B W1 (N + 2 * rm.length) (SO.tellS t [SO.ack frm seq t.me]) U := ⟨B', x', o'⟩
               exact ⟨(HK.out.kk _ _ _ h').2.1, (HK.out.kk _ _ _ h').2.2.1, by rw [← tellS_me [SO.ack frm seq t.me] t]; exact HK.out.me _ _ _ h'⟩
             have CK := hidI D.out.ack
             have CT := hidI D.out.tell
             have HFN := hidI (fun e w' => HFIN.out (N + 2 * rm.length) (SO.tellS t [SO.ack frm seq t.me]) (SO.tellL t [SO.ack frm seq t.me]) e w' (by omega))
             clear D HK HFIN HCE HCA H6 HACT HM HT
             generalize SO.tellS t [SO.ack frm seq t.me] = R1 at *
             generalize SO.tellL t [SO.ack frm seq t.me] = R2 at *
             generalize t.me = me at *
             go_wp2_with fail
             refine wp_region_noPanic ?_
             refine wp_region_held_drew (S := fun U => U.cell? ⟨fb, 1, none⟩ = some (.int .i64 frm) ∧ U.cell? ⟨fb, 2, none⟩ = some (.int .i64 seq) ∧ U.cell? ⟨p, 10, none⟩ = some (.int .i64 me)) (by kernel_rfl) ((by first | exact SK.out _ (HB.drewN 1) | exact SK2.out _ _ (HB.drewN 1))) (fun hHeld => ?_)
             refine wpAnyH_take (i := 0) rfl (by kernel_rfl) (by kernel_rfl) (by kernel_rfl) (fun _ _ _ h => h) (yi_move (by kernel_rfl) rfl rfl) (by assumption) ?_
             simp only [Act.put, List.getElem_toArray, List.getElem_cons_succ, List.getElem_cons_zero, List.setIfInBounds_toArray, List.set_cons_zero, List.set_cons_succ]
             refine wpAnyH_take (i := 1) (v := ?_) rfl (by kernel_rfl) (by kernel_rfl) (by kernel_rfl) (fun _ _ _ h => h) (Or.inl ⟨by kernel_rfl, ?_⟩) (by assumption) ?_
             rotate_left
             · (intro w hSw; (try dsimp only at hSw); go_simp; (try with_reducible rfl))
             simp only [Act.put, List.getElem_toArray, List.getElem_cons_succ, List.getElem_cons_zero, List.setIfInBounds_toArray, List.set_cons_zero, List.set_cons_succ]
             refine wpAnyH_take (i := 2) (v := ?_) rfl (by kernel_rfl) (by kernel_rfl) (by kernel_rfl) (fun _ _ _ h => h) (Or.inl ⟨by kernel_rfl, ?_⟩) (by assumption) ?_
             rotate_left
             · (intro w hSw; obtain ⟨e1, e2, e3⟩ := hSw; go_simp; (try with_reducible rfl))
             simp only [Act.put, List.getElem_toArray, List.getElem_cons_succ, List.getElem_cons_zero, List.setIfInBounds_toArray, List.set_cons_zero, List.set_cons_succ]
             refine wpAnyH_take (i := 3) (v := ?_) rfl (by kernel_rfl) (by kernel_rfl) (by kernel_rfl) (fun _ _ _ h => h) (Or.inl ⟨by kernel_rfl, ?_⟩) (by assumption) ?_
             rotate_left
             · (intro w hSw; (try dsimp only at hSw); go_simp; (try with_reducible rfl))
             simp only [Act.put, List.getElem_toArray, List.getElem_cons_succ, List.getElem_cons_zero, List.setIfInBounds_toArray, List.set_cons_zero, List.set_cons_succ]
             refine wpAnyH_take (i := 4) (v := ?_) rfl (by kernel_rfl) (by kernel_rfl) (by kernel_rfl) (fun _ _ _ h => h) (Or.inl ⟨by kernel_rfl, ?_⟩) (by assumption) ?_
             rotate_left
             · (intro w hSw; obtain ⟨e1, e2, e3⟩ := hSw; go_simp; (try with_reducible rfl))
             simp only [Act.put, List.getElem_toArray, List.getElem_cons_succ, List.getElem_cons_zero, List.setIfInBounds_toArray, List.set_cons_zero, List.set_cons_succ]
             refine wpAnyH_take (i := 5) rfl (by kernel_rfl) (by kernel_rfl) (by kernel_rfl) (fun _ _ _ h => h) (yi_move (by kernel_rfl) rfl rfl) (by assumption) ?_
             simp only [Act.put, List.getElem_toArray, List.getElem_cons_succ, List.getElem_cons_zero, List.setIfInBounds_toArray, List.set_cons_zero, List.set_cons_succ]
             refine wpAnyH_take (i := 6) (v := ?_) rfl (by kernel_rfl) (by kernel_rfl) (by kernel_rfl) (fun _ _ _ h => h) (Or.inl ⟨by kernel_rfl, ?_⟩) (by assumption) ?_
             rotate_left
             · (intro w hSw; (try dsimp only at hSw); go_simp; (try with_reducible rfl))
             simp only [Act.put, List.getElem_toArray, List.getElem_cons_succ, List.getElem_cons_zero, List.setIfInBounds_toArray, List.set_cons_zero, List.set_cons_succ]
             refine wpAnyH_take (i := 7) (v := ?_) rfl (by kernel_rfl) (by kernel_rfl) (by kernel_rfl) (fun _ _ _ h => h) (Or.inl ⟨by kernel_rfl, ?_⟩) (by assumption) ?_
             rotate_left
             · (intro w hSw; (try dsimp only at hSw); go_simp; (try with_reducible rfl))
             simp only [Act.put, List.getElem_toArray, List.getElem_cons_succ, List.getElem_cons_zero, List.setIfInBounds_toArray, List.set_cons_zero, List.set_cons_succ]
             refine wpAnyH_take (i := 8) (v := ?_) rfl (by kernel_rfl) (by kernel_rfl) (by kernel_rfl) (fun _ _ _ h => h) (Or.inl ⟨by kernel_rfl, ?_⟩) (by assumption) ?_
             rotate_left
             · (intro w hSw; obtain ⟨e1, e2, e3⟩ := hSw; go_simp; (try with_reducible rfl))
             simp only [Act.put, List.getElem_toArray, List.getElem_cons_succ, List.getElem_cons_zero, List.setIfInBounds_toArray, List.set_cons_zero, List.set_cons_succ]
             refine wpAnyH_ready (rs := [9]) (by kernel_rfl) (by simp) ?_
             refine AllReadyH.cons (o := _) rfl (fun K hK => ?_) AllReadyH.nil
             go_simp
             go_at_call 33; refine (CK.out _ (HB.drewN 1)).mono ?_; rintro e V10 ⟨rfl, HB10⟩; have HBK := HB10
             refine hK.out _ _ ((by first | exact SK.out _ HB10 | exact SK2.out _ _ HB10)) (fun hHeld => ?_)
             clear hK K
             (try simp only [Act.put, List.getElem_toArray, List.getElem_cons_succ, List.getElem_cons_zero, List.setIfInBounds_toArray, List.set_cons_zero, List.set_cons_succ])
             refine wpAnyH_ready (rs := [10]) (by kernel_rfl) (by simp) ?_
             refine AllReadyH.cons (o := _) rfl (fun K hK => ?_) AllReadyH.nil
             refine stepo_bs1 rfl 33 tSn _ rfl L 238 408 (.agg z) undSs hz1 hLl (by omega) (by omega) (by rfl) (hK.out _ _ ((by first | exact SK.out _ ((HB10).alloc _) | exact SK2.out _ _ ((HB10).alloc _))) (fun hHeld => ?_))
             clear hK K
             (try simp only [Act.put, List.getElem_toArray, List.getElem_cons_succ, List.getElem_cons_zero, List.setIfInBounds_toArray, List.set_cons_zero, List.set_cons_succ])
             refine wpAnyH_ready (rs := [11]) (by kernel_rfl) (by simp) ?_
             refine AllReadyH.cons (o := _) rfl (fun K hK => ?_) AllReadyH.nil
             go_simp
             go_at_call 18; refine (CT.out _ _ HBK rfl).mono ?_; rintro e V12 HB12; obtain ⟨a7, c7, ys7, B7, he, h8⟩ := id HB12; subst he; clear h8
             refine hK.out _ _ ((by first | exact SK.out _ HB12 | exact SK2.out _ _ HB12)) (fun hHeld => ?_)
             clear hK K
             (try simp only [Act.put, List.getElem_toArray, List.getElem_cons_succ, List.getElem_cons_zero, List.setIfInBounds_toArray, List.set_cons_zero, List.set_cons_succ])
             refine wpAnyH_take (i := 12) rfl (by kernel_rfl) (by kernel_rfl) (by kernel_rfl) (fun _ _ _ h => h) (yi_assign (by kernel_rfl) rfl rfl) (by assumption) ?_
             simp only [Act.put, List.getElem_toArray, List.getElem_cons_succ, List.getElem_cons_zero, List.setIfInBounds_toArray, List.set_cons_zero, List.set_cons_succ]
             refine wpAnyH_done (by kernel_rfl) ?_ _
             refine NoPanic.normal ?_
             have HBE := hidI HB12
             go_wp2_with fail
             go_ret
             rw [HE.out, HEA.out]
             exact HFN.out _ _ HBE.out
           · have g1 : (kind == 1) = false := by simpa using hk1
             rcases Classical.em (kind = 3) with hk3 | hk3
             · have HEA : Hid (SO.act t f = SO.errand t f) := by show _ = _; rw [HACT.out, if_neg hk1, if_pos hk3]
               have g3 : (kind == 3) = true := by rw [hk3]; rfl
               have C := hidI (HCE.out hk3 (N + 2 * rm.length) t w6 (by omega) H6.out)
               have HBX := hidI (HK.out.box _ _ _ H6.out)
               have HFN := hidI (fun e w' => HFIN.out (N + 2 * rm.length + 1) (SO.errand t f).1 (SO.errand t f).2 e w' (by omega))
               clear D HK HFIN HCE HCA H6 HACT HM HT
               go_wp2_with (first
                 | (refine wpList_load_row rfl tFr _ rfl fb rfl tFr FL.toArray (0, 0) _ HBX.out humF rfl hiF ?_; clear HBX)
                 | (go_at_call 34; refine (C.out).mono ?_; clear C; rintro e w7 h7; obtain ⟨a7, c7, ys7, B7, he, h8⟩ := id h7; subst he; clear h8; have H7 := hidI h7; clear h7))
               go_ret
               rw [HE.out, HEA.out]
               exact HFN.out _ _ H7.out
             · have g3 : (kind == 3) = false := by simpa using hk3
               rcases Classical.em (kind = 2) with hk2 | hk2
               · have HEA : Hid (SO.act t f = SO.ackE (SO.pHear t f) f) := by show _ = _; rw [HACT.out, if_neg hk1, if_neg hk3, if_pos hk2]
                 have g2 : (kind == 2) = true := by rw [hk2]; rfl
                 have C := hidI (HCA.out (N + 2 * rm.length) t w6 H6.out)
                 have HBX := hidI (HK.out.box _ _ _ H6.out)
                 have HFN := hidI (fun e w' => HFIN.out (N + 2 * rm.length) (SO.ackE (SO.pHear t f) f).1 (SO.ackE (SO.pHear t f) f).2 e w' (by omega))
                 clear D HK HFIN HCE HCA H6 HACT HM HT
                 go_wp2_with (first
                   | (refine wpList_load_row rfl tFr _ rfl fb rfl tFr FL.toArray (0, 0) _ HBX.out humF rfl hiF ?_; clear HBX)
                   | (go_at_call 35; refine (C.out).mono ?_; clear C; rintro e w7 h7; obtain ⟨a7, c7, ys7, B7, he, h8⟩ := id h7; subst he; clear h8; have H7 := hidI h7; clear h7))
                 go_ret
                 rw [HE.out, HEA.out]
                 exact HFN.out _ _ H7.out
               · have HEA : Hid (SO.act t f = (t, [])) := by show _ = _; rw [HACT.out, if_neg hk1, if_neg hk3, if_neg hk2]
                 have g2 : (kind == 2) = false := by simpa using hk2
                 have HFN := hidI (HFIN.out (N + 2 * rm.length) t [] _ _ (by omega) (ans_none H6.out))
                 clear D HK HFIN HCE HCA H6 HACT HM HT
                 go_wp2_with fail
                 go_ret
                 rw [HE.out, HEA.out]
                 exact HFN.out
    | false =>
      have hzn : (st != 0) = true := by unfold bne; rw [hzz]; rfl
      have HS1 : Hid (s1 = SO.remind s frm) := by show _ = _; rw [HHE.out]; rfl
      have k1 := (HK.out.kk _ _ _ H2.out.drew).2.1
      go_wp2_with fail
      go_region_with (go_at_call 31; refine (C3.out _ ?_).mono ?_; exact (H2.out.drew); rintro e w3 ⟨rfl, h3⟩; have h3' := h3; rw [← HS1.out] at h3'; have H3 := hidI h3'; clear h3 h3')
      clear k1 C3 H2 HS1 HHE
      have k236 := (HK.out.kk _ _ _ H3.out).2.2.2
      go_wp2_with fail
      (try simp only [Act.put, List.getElem_toArray, List.getElem_cons_succ, List.getElem_cons_zero, List.setIfInBounds_toArray, List.set_cons_zero, List.set_cons_succ])
      go_loopw [6, 33] (fun _ u33 wr => ∃ k : Nat, k ≤ rm.length ∧ u33 = .int .i64 (k : Int) ∧ SX w p B W1 (N + 2 * k) (SO.rums s1 (rm.take k)) wr) (fun _ u33 _ => rm.length - (intOf u33).toNat)
      case atStart => exact ⟨0, by omega, rfl, H3.out⟩
      case round =>
       obtain ⟨k, hk, rfl, hx⟩ := hrel
       clear H3 k236
       by_cases hlt : k < rm.length
       · obtain ⟨m, hm⟩ : ∃ m, rm[k]? = some m := ⟨rm[k], List.getElem?_eq_getElem hlt⟩
         obtain ⟨b, off, rfl, hbb, hrg⟩ := HK.out.rs _ _ _ hx k m hm
         have HRG := hidI hrg
         have CR := hidI (fun U (hU : SX w p B W1 (N + 2 * k) (SO.rums s1 (rm.take k)) U) => C4.out _ _ m U (by omega) (List.mem_of_getElem? hm) hU)
         have HRT : Hid (SO.rums s1 (rm.take (k + 1)) = SO.rum (SO.rums s1 (rm.take k)) m) := rums_take hm
         have HGR : Hid (∀ U, Bl wr U → SX w p B W1 (N + 2 * k) (SO.rums s1 (rm.take k)) U) := fun U h => hx.grow h
         have HBX : Hid (∀ o, Bl wr (wr.alloc o)) := fun o => (Bl.refl wr).alloc o
         obtain ⟨mn, mi, ms⟩ := m
         unfold meV at CR
         simp only at CR
         have HRG2 : Hid (wr.rangeAt b (off + k * 3) [.int .i64 mn, .int .i64 mi, .int .i64 ms]) := HRG.out
         obtain ⟨fsm, humM⟩ := undMe
         clear hm hrg HRG hx C4 D HK HH2 HFIN HCE HCA
         go_wp2_with (first
           | (refine wpList_load_mid rfl 38 _ rfl b (off + k * 3) rfl [.int .i64 mn, .int .i64 mi, .int .i64 ms] _ HRG2.out humM rfl infoMe ?_; clear HRG2)
           | (go_at_call 32; refine (CR.out _ (HGR.out _ (HBX.out _))).mono ?_; clear CR; rintro e w5 ⟨rfl, h5⟩; have H5 := hidI h5; clear h5))
         go_roundw
         case rel => exact ⟨k + 1, by omega, by go_num, by rw [HRT.out]; exact H5.out⟩
         case measure => simp [intOf]; omega
       · obtain rfl : k = rm.length := by omega
         rw [List.take_length, HT.out] at hx
         have H6 := hidI hx
         clear hx C4
         cases hlf : SO.left t with
         | true =>
           have CLF := hidI (D.out.left wr H6.out)
           rw [hlf] at CLF HH2
           have HE : Hid (hs.1 = t ∧ hs.2 = []) := by show _ ∧ _; rw [HH2.out]; exact ⟨rfl, rfl⟩
           clear D HK HH2 HCE HCA H6
           go_wp2_with (go_at_call 22; refine (CLF.out).mono ?_; clear CLF; rintro e w6 ⟨rfl, h6⟩; have H6 := hidI h6; clear h6)
           go_ret
           rw [HE.out.1, HE.out.2]
           exact HFIN.out _ t [] _ _ (by omega) (ans_none H6.out)
         | false =>
           have CLF : Hid (Calls Try.prog 22 #[.pointer (some ⟨p, 0, none⟩)] wr fun e w' => e = .returned (.bool false) ∧ SX w p B W1 (N + 2 * rm.length) t w' ∧ w'.cell? ⟨fb, 0, none⟩ = some (.int .i64 kind)) := (D.out.left wr H6.out).mono fun e w' ⟨h1, h2⟩ => ⟨by rw [h1, hlf], h2, (HK.out.kk _ _ _ h2).1⟩
           rw [hlf] at HH2
           have HE : Hid (hs = SO.act t f) := by show _ = _; rw [HH2.out]; rfl
           clear HH2 H6
           go_upto_region 13 with (go_at_call 22; refine (CLF.out).mono ?_; clear CLF; rintro e w6 ⟨rfl, h6, k0⟩; have H6 := hidI h6; clear h6)
           rcases Classical.em (kind = 1) with hk1 | hk1
           · have HEA : Hid (SO.act t f = (SO.tellS t [SO.ack frm seq t.me], SO.tellL t [SO.ack frm seq t.me])) := by show _ = _; rw [HACT.out, if_pos hk1]
             have g1 : (kind == 1) = true := by rw [hk1]; rfl
             have HB : SX w p B W1 (N + 2 * rm.length) t w6 := H6.out
             have SK : Hid (∀ U, SX w p B W1 (N + 2 * rm.length) t U → U.cell? ⟨fb, 1, none⟩ = some (.int .i64 frm) ∧ U.cell? ⟨fb, 2, none⟩ = some (.int .i64 seq) ∧ U.cell? ⟨p, 10, none⟩ = some (.int .i64 t.me)) := fun U h => ⟨(HK.out.kk _ _ _ h).2.1, (HK.out.kk _ _ _ h).2.2.1, HK.out.me _ _ _ h⟩
             have SK2 : Hid (∀ e U, Ans w p B W1 (N + 2 * rm.length) (SO.tellS t [SO.ack frm seq t.me]) (SO.tellL t [SO.ack frm seq t.me]) e U → U.cell? ⟨fb, 1, none⟩ = some (.int .i64 frm) ∧ U.cell? ⟨fb, 2, none⟩ = some (.int .i64 seq) ∧ U.cell? ⟨p, 10, none⟩ = some (.int .i64 t.me)) := fun e U h => by
               obtain ⟨_, _, _, B', _, x', o', _⟩ := h
               have h' : SX w p B W1 (N + 2 * rm.length) (SO.tellS t [SO.ack frm seq t.me]) U := ⟨B', x', o'⟩
               exact ⟨(HK.out.kk _ _ _ h').2.1, (HK.out.kk _ _ _ h').2.2.1, by rw [← tellS_me [SO.ack frm seq t.me] t]; exact HK.out.me _ _ _ h'⟩
             have CK := hidI D.out.ack
             have CT := hidI D.out.tell
             have HFN := hidI (fun e w' => HFIN.out (N + 2 * rm.length) (SO.tellS t [SO.ack frm seq t.me]) (SO.tellL t [SO.ack frm seq t.me]) e w' (by omega))
             clear D HK HFIN HCE HCA H6 HACT HM HT
             generalize SO.tellS t [SO.ack frm seq t.me] = R1 at *
             generalize SO.tellL t [SO.ack frm seq t.me] = R2 at *
             generalize t.me = me at *
             go_wp2_with fail
             refine wp_region_noPanic ?_
             refine wp_region_held_drew (S := fun U => U.cell? ⟨fb, 1, none⟩ = some (.int .i64 frm) ∧ U.cell? ⟨fb, 2, none⟩ = some (.int .i64 seq) ∧ U.cell? ⟨p, 10, none⟩ = some (.int .i64 me)) (by kernel_rfl) ((by first | exact SK.out _ (HB.drewN 1) | exact SK2.out _ _ (HB.drewN 1))) (fun hHeld => ?_)
             refine wpAnyH_take (i := 0) rfl (by kernel_rfl) (by kernel_rfl) (by kernel_rfl) (fun _ _ _ h => h) (yi_move (by kernel_rfl) rfl rfl) (by assumption) ?_
             simp only [Act.put, List.getElem_toArray, List.getElem_cons_succ, List.getElem_cons_zero, List.setIfInBounds_toArray, List.set_cons_zero, List.set_cons_succ]
             refine wpAnyH_take (i := 1) (v := ?_) rfl (by kernel_rfl) (by kernel_rfl) (by kernel_rfl) (fun _ _ _ h => h) (Or.inl ⟨by kernel_rfl, ?_⟩) (by assumption) ?_
             rotate_left
             · (intro w hSw; (try dsimp only at hSw); go_simp; (try with_reducible rfl))
             simp only [Act.put, List.getElem_toArray, List.getElem_cons_succ, List.getElem_cons_zero, List.setIfInBounds_toArray, List.set_cons_zero, List.set_cons_succ]
             refine wpAnyH_take (i := 2) (v := ?_) rfl (by kernel_rfl) (by kernel_rfl) (by kernel_rfl) (fun _ _ _ h => h) (Or.inl ⟨by kernel_rfl, ?_⟩) (by assumption) ?_
             rotate_left
             · (intro w hSw; obtain ⟨e1, e2, e3⟩ := hSw; go_simp; (try with_reducible rfl))
             simp only [Act.put, List.getElem_toArray, List.getElem_cons_succ, List.getElem_cons_zero, List.setIfInBounds_toArray, List.set_cons_zero, List.set_cons_succ]
             refine wpAnyH_take (i := 3) (v := ?_) rfl (by kernel_rfl) (by kernel_rfl) (by kernel_rfl) (fun _ _ _ h => h) (Or.inl ⟨by kernel_rfl, ?_⟩) (by assumption) ?_
             rotate_left
             · (intro w hSw; (try dsimp only at hSw); go_simp; (try with_reducible rfl))
             simp only [Act.put, List.getElem_toArray, List.getElem_cons_succ, List.getElem_cons_zero, List.setIfInBounds_toArray, List.set_cons_zero, List.set_cons_succ]
             refine wpAnyH_take (i := 4) (v := ?_) rfl (by kernel_rfl) (by kernel_rfl) (by kernel_rfl) (fun _ _ _ h => h) (Or.inl ⟨by kernel_rfl, ?_⟩) (by assumption) ?_
             rotate_left
             · (intro w hSw; obtain ⟨e1, e2, e3⟩ := hSw; go_simp; (try with_reducible rfl))
             simp only [Act.put, List.getElem_toArray, List.getElem_cons_succ, List.getElem_cons_zero, List.setIfInBounds_toArray, List.set_cons_zero, List.set_cons_succ]
             refine wpAnyH_take (i := 5) rfl (by kernel_rfl) (by kernel_rfl) (by kernel_rfl) (fun _ _ _ h => h) (yi_move (by kernel_rfl) rfl rfl) (by assumption) ?_
             simp only [Act.put, List.getElem_toArray, List.getElem_cons_succ, List.getElem_cons_zero, List.setIfInBounds_toArray, List.set_cons_zero, List.set_cons_succ]
             refine wpAnyH_take (i := 6) (v := ?_) rfl (by kernel_rfl) (by kernel_rfl) (by kernel_rfl) (fun _ _ _ h => h) (Or.inl ⟨by kernel_rfl, ?_⟩) (by assumption) ?_
             rotate_left
             · (intro w hSw; (try dsimp only at hSw); go_simp; (try with_reducible rfl))
             simp only [Act.put, List.getElem_toArray, List.getElem_cons_succ, List.getElem_cons_zero, List.setIfInBounds_toArray, List.set_cons_zero, List.set_cons_succ]
             refine wpAnyH_take (i := 7) (v := ?_) rfl (by kernel_rfl) (by kernel_rfl) (by kernel_rfl) (fun _ _ _ h => h) (Or.inl ⟨by kernel_rfl, ?_⟩) (by assumption) ?_
             rotate_left
             · (intro w hSw; (try dsimp only at hSw); go_simp; (try with_reducible rfl))
             simp only [Act.put, List.getElem_toArray, List.getElem_cons_succ, List.getElem_cons_zero, List.setIfInBounds_toArray, List.set_cons_zero, List.set_cons_succ]
             refine wpAnyH_take (i := 8) (v := ?_) rfl (by kernel_rfl) (by kernel_rfl) (by kernel_rfl) (fun _ _ _ h => h) (Or.inl ⟨by kernel_rfl, ?_⟩) (by assumption) ?_
             rotate_left
             · (intro w hSw; obtain ⟨e1, e2, e3⟩ := hSw; go_simp; (try with_reducible rfl))
             simp only [Act.put, List.getElem_toArray, List.getElem_cons_succ, List.getElem_cons_zero, List.setIfInBounds_toArray, List.set_cons_zero, List.set_cons_succ]
             refine wpAnyH_ready (rs := [9]) (by kernel_rfl) (by simp) ?_
             refine AllReadyH.cons (o := _) rfl (fun K hK => ?_) AllReadyH.nil
             go_simp
             go_at_call 33; refine (CK.out _ (HB.drewN 1)).mono ?_; rintro e V10 ⟨rfl, HB10⟩; have HBK := HB10
             refine hK.out _ _ ((by first | exact SK.out _ HB10 | exact SK2.out _ _ HB10)) (fun hHeld => ?_)
             clear hK K
             (try simp only [Act.put, List.getElem_toArray, List.getElem_cons_succ, List.getElem_cons_zero, List.setIfInBounds_toArray, List.set_cons_zero, List.set_cons_succ])
             refine wpAnyH_ready (rs := [10]) (by kernel_rfl) (by simp) ?_
             refine AllReadyH.cons (o := _) rfl (fun K hK => ?_) AllReadyH.nil
             refine stepo_bs1 rfl 33 tSn _ rfl L 238 408 (.agg z) undSs hz1 hLl (by omega) (by omega) (by rfl) (hK.out _ _ ((by first | exact SK.out _ ((HB10).alloc _) | exact SK2.out _ _ ((HB10).alloc _))) (fun hHeld => ?_))
             clear hK K
             (try simp only [Act.put, List.getElem_toArray, List.getElem_cons_succ, List.getElem_cons_zero, List.setIfInBounds_toArray, List.set_cons_zero, List.set_cons_succ])
             refine wpAnyH_ready (rs := [11]) (by kernel_rfl) (by simp) ?_
             refine AllReadyH.cons (o := _) rfl (fun K hK => ?_) AllReadyH.nil
             go_simp
             go_at_call 18; refine (CT.out _ _ HBK rfl).mono ?_; rintro e V12 HB12; obtain ⟨a7, c7, ys7, B7, he, h8⟩ := id HB12; subst he; clear h8
             refine hK.out _ _ ((by first | exact SK.out _ HB12 | exact SK2.out _ _ HB12)) (fun hHeld => ?_)
             clear hK K
             (try simp only [Act.put, List.getElem_toArray, List.getElem_cons_succ, List.getElem_cons_zero, List.setIfInBounds_toArray, List.set_cons_zero, List.set_cons_succ])
             refine wpAnyH_take (i := 12) rfl (by kernel_rfl) (by kernel_rfl) (by kernel_rfl) (fun _ _ _ h => h) (yi_assign (by kernel_rfl) rfl rfl) (by assumption) ?_
             simp only [Act.put, List.getElem_toArray, List.getElem_cons_succ, List.getElem_cons_zero, List.setIfInBounds_toArray, List.set_cons_zero, List.set_cons_succ]
             refine wpAnyH_done (by kernel_rfl) ?_ _
             refine NoPanic.normal ?_
             have HBE := hidI HB12
             go_wp2_with fail
             go_ret
             rw [HE.out, HEA.out]
             exact HFN.out _ _ HBE.out
           · have g1 : (kind == 1) = false := by simpa using hk1
             rcases Classical.em (kind = 3) with hk3 | hk3
             · have HEA : Hid (SO.act t f = SO.errand t f) := by show _ = _; rw [HACT.out, if_neg hk1, if_pos hk3]
               have g3 : (kind == 3) = true := by rw [hk3]; rfl
               have C := hidI (HCE.out hk3 (N + 2 * rm.length) t w6 (by omega) H6.out)
               have HBX := hidI (HK.out.box _ _ _ H6.out)
               have HFN := hidI (fun e w' => HFIN.out (N + 2 * rm.length + 1) (SO.errand t f).1 (SO.errand t f).2 e w' (by omega))
               clear D HK HFIN HCE HCA H6 HACT HM HT
               go_wp2_with (first
                 | (refine wpList_load_row rfl tFr _ rfl fb rfl tFr FL.toArray (0, 0) _ HBX.out humF rfl hiF ?_; clear HBX)
                 | (go_at_call 34; refine (C.out).mono ?_; clear C; rintro e w7 h7; obtain ⟨a7, c7, ys7, B7, he, h8⟩ := id h7; subst he; clear h8; have H7 := hidI h7; clear h7))
               go_ret
               rw [HE.out, HEA.out]
               exact HFN.out _ _ H7.out
             · have g3 : (kind == 3) = false := by simpa using hk3
               rcases Classical.em (kind = 2) with hk2 | hk2
               · have HEA : Hid (SO.act t f = SO.ackE (SO.pHear t f) f) := by show _ = _; rw [HACT.out, if_neg hk1, if_neg hk3, if_pos hk2]
                 have g2 : (kind == 2) = true := by rw [hk2]; rfl
                 have C := hidI (HCA.out (N + 2 * rm.length) t w6 H6.out)
                 have HBX := hidI (HK.out.box _ _ _ H6.out)
                 have HFN := hidI (fun e w' => HFIN.out (N + 2 * rm.length) (SO.ackE (SO.pHear t f) f).1 (SO.ackE (SO.pHear t f) f).2 e w' (by omega))
                 clear D HK HFIN HCE HCA H6 HACT HM HT
                 go_wp2_with (first
                   | (refine wpList_load_row rfl tFr _ rfl fb rfl tFr FL.toArray (0, 0) _ HBX.out humF rfl hiF ?_; clear HBX)
                   | (go_at_call 35; refine (C.out).mono ?_; clear C; rintro e w7 h7; obtain ⟨a7, c7, ys7, B7, he, h8⟩ := id h7; subst he; clear h8; have H7 := hidI h7; clear h7))
                 go_ret
                 rw [HE.out, HEA.out]
                 exact HFN.out _ _ H7.out
               · have HEA : Hid (SO.act t f = (t, [])) := by show _ = _; rw [HACT.out, if_neg hk1, if_neg hk3, if_neg hk2]
                 have g2 : (kind == 2) = false := by simpa using hk2
                 have HFN := hidI (HFIN.out (N + 2 * rm.length) t [] _ _ (by omega) (ans_none H6.out))
                 clear D HK HFIN HCE HCA H6 HACT HM HT
                 go_wp2_with fail
                 go_ret
                 rw [HE.out, HEA.out]
                 exact HFN.out
end Go.Proofs.Ytfpjknfgiciokaa
