/- The texts So26 So27 So28 So29 as one. -/
import Derived.Test.YtfpjknfgiciokaaSo2x
import Derived.Deep.RegionLaw
/- slices.Delete of errands; errands.add. -/
namespace Go.Proofs.Ytfpjknfgiciokaa
open Go.RowKit Go.Maps
set_option linter.unusedVariables false
set_option linter.unusedSimpArgs false

/-- a row's beginning written anew -/
theorem own_sets0 {α : Type} (E : Lay α) {W : World} {N g n cap : Nat} {T : TypeId} {L : List α} (hn : n = L.length) (h : W.ownsRow N T E.k (.slice (some ⟨g, 0, none⟩) n cap) n (flG E L)) (L' : List α) (hl : L'.length ≤ L.length) :
    (W.setCells g 0 (flG E L')).ownsRow N T E.k (.slice (some ⟨g, 0, none⟩) n cap) n (flG E (L' ++ L.drop L'.length)) := by
  obtain ⟨h0, ⟨h1, h2⟩ | ⟨g', cap', cur, h1, h2, h3, h4, h5, h6, h7⟩⟩ := h
  · cases h1
  · simp only [Value.slice.injEq, Option.some.injEq, Addr.mk.injEq, true_and, and_true] at h1
    obtain ⟨rfl, rfl⟩ := h1
    refine ⟨by rw [flG_len, List.length_append, List.length_drop, hn, Nat.add_sub_cancel' hl], Or.inr ⟨g, cap, _, rfl, h2, heap_setCells _ h3, h4, h5, by rw [setA_size]; exact h6, ?_⟩⟩
    rw [setA_list, setL_take, h7, flG_app]
    have e : flG E L = flG E (L.take L'.length) ++ flG E (L.drop L'.length) := by rw [← flG_app, List.take_append_drop]
    rw [e, setL_zero _ _ _ (by rw [flG_len, flG_len, List.length_take, Nat.min_eq_left hl])]
theorem own_cellsG {α : Type} (E : Lay α) {W : World} {N g n cap : Nat} {T : TypeId} {L : List α} (hn : n = L.length) (h : W.ownsRow N T E.k (.slice (some ⟨g, 0, none⟩) n cap) n (flG E L)) {i : Nat} {v : Value} (hv : (flG E L)[i]? = some v) : W.cell? ⟨g, i, none⟩ = some v := by
  obtain ⟨h0, ⟨h1, h2⟩ | ⟨g', cap', cur, h1, h2, h3, h4, h5, h6, h7⟩⟩ := h
  · cases h1
  · simp only [Value.slice.injEq, Option.some.injEq, Addr.mk.injEq, true_and, and_true] at h1
    obtain ⟨rfl, rfl⟩ := h1
    have hi : i < n * E.k := by have := (List.getElem?_eq_some_iff.1 hv).1; rw [flG_len, ← hn] at this; exact this
    rw [Lib.cell_of_heap h3, ← Array.getElem?_toList]
    rw [← h7, List.getElem?_take, if_pos hi] at hv
    exact hv
theorem undErs : Try.prog.underlying 78 = some (.slice tEr) := Try.underlying78
theorem zeroEr : ∀ w, (zeroValue 109).run Try.prog w = .ok (.agg #[.int .i64 0, .int .i64 0, .int .i64 0, .int .i64 0, .bool false]) w := Try.zeroValue109
theorem infoEr3 : ∃ z, (Try.prog.info? tEr).map (fun i => (i.zero, i.size, i.bytes)) = some (some (.agg z), 5, 40) ∧ z.size = 5 := ⟨#[.int .i64 0, .int .i64 0, .int .i64 0, .int .i64 0, .bool false], by kernel_rfl, rfl⟩
theorem flG_drop {α : Type} (E : Lay α) (L : List α) (i j : Nat) : (flG E (L.drop i))[j]? = (flG E L)[i * E.k + j]? := by
  by_cases hi : i ≤ L.length
  · have e : flG E L = flG E (L.take i) ++ flG E (L.drop i) := by rw [← flG_app, List.take_append_drop]
    have hl : (flG E (L.take i)).length = i * E.k := by rw [flG_len, List.length_take, Nat.min_eq_left hi]
    rw [e, List.getElem?_append_right (by omega), hl, Nat.add_sub_cancel_left]
  · rw [List.drop_eq_nil_of_le (by omega), List.getElem?_eq_none (by simp [flG]), List.getElem?_eq_none (by rw [flG_len]; have : L.length * E.k ≤ i * E.k := Nat.mul_le_mul_right _ (by omega); omega)]
set_option maxRecDepth 8000 in
set_option maxHeartbeats 4000000 in
theorem DeleteE {N n : Nat} {v : Value} {l : List SO.Er} {W : World} (hn : n = l.length) (hown : W.ownsRow N tEr 5 v n (flG lyE l)) (h2 : 2 ≤ n) (hl : n ≤ 1000) :
    Calls Try.prog 72 #[v, .int .i64 0, .int .i64 1] W fun e w' => ∃ v', e = .returned v' ∧ w'.ownsRow N tEr 5 v' (n - 1) (flG lyE (l.drop 1)) ∧ W.grownBy w' v.ownBlock ∧ v'.ownBlock = v.ownBlock := by
  obtain ⟨g, c, rfl, hcl⟩ : ∃ g c, v = .slice (some ⟨g, 0, none⟩) n c ∧ n ≤ c := by
    obtain ⟨_, ⟨h1, h3⟩ | ⟨g', cap', cur, h1, _, _, h4, _⟩⟩ := hown
    · omega
    · exact ⟨g', cap', h1, h4⟩
  have hown' : W.drew.ownsRow N tEr 5 (.slice (some ⟨g, 0, none⟩) n c) n (flG lyE l) := ownsRow_bl hown ((Bl.refl W).drew)
  obtain ⟨news, hnews⟩ : ∃ news, news = flG lyE (l.drop 1) := ⟨_, rfl⟩
  have hnl : Hid (news.length = (n - 1) * 5) := by show _ = _; rw [hnews, flG_len, List.length_drop, hn]; rfl
  have hnc : Hid (∀ j u, news[j]? = some u → W.drew.cell? ((⟨g, 5, none⟩ : Addr).add j) = some u) := fun j u hu => by
    rw [hnews, flG_drop] at hu
    rw [Addr.add_lit]
    exact own_cellsG lyE hn hown' hu
  have hn1 : Hid (∀ u ∈ news, u.oneCell' = true) := by rw [hnews]; exact flG_one lyE _
  have hth : Hid (∀ j, j < news.length → (W.drew.cell? ⟨g, 0 + 0 * 5 + j, none⟩).isSome = true ∧ W.drew.frozen? ⟨g, 0 + 0 * 5 + j, none⟩ = false) := fun j hj => by
    rw [hnl.out] at hj
    have := owns_there lyE hown' (i := 0) (o := 0) (m := n * 5) (by show 0 * 5 + 0 + n * 5 ≤ n * 5; omega) j (by omega)
    simpa using this
  have hset := own_sets0 lyE hn hown' (l.drop 1) (by simp)
  rw [← hnews] at hset
  have hfin : Hid (∀ vs, ((W.drew.setCells g 0 news).setCells g ((n - 1) * 5) vs).ownsRow N tEr 5 (.slice (some ⟨g, 0, none⟩) (n - 1) c) (n - 1) (flG lyE (l.drop 1)) ∧ W.grownBy ((W.drew.setCells g 0 news).setCells g ((n - 1) * 5) vs) (some g)) := fun vs => by
    have h := own_cut lyE (n := n) (i := n - 1) (by simp only [List.length_append, List.length_drop]; omega) hset (by simp only [List.length_append, List.length_drop]; omega) vs
    rw [List.take_append_of_le_length (by rw [List.length_drop]; omega), List.take_of_length_le (by rw [List.length_drop]; omega)] at h
    exact ⟨h, ((grown_bl ((Bl.refl W).drew) _).trans (grown_setCells _ _ _ _)).trans (grown_setCells _ _ _ _)⟩
  obtain ⟨vs, hcl2⟩ := run_clearG lyE (L := l.drop 1 ++ l.drop (l.drop 1).length) (by simp only [List.length_append, List.length_drop]; omega) hset undErs zeroEr rfl (by simp [Value.cells, Value.oneCell']) (i := n - 1) (by omega) 0 (c - (n - 1))
  have hcl3 : ∀ ty, (Builtin.clear_ #[78] ty #[.slice (some ⟨g, (n - 1) * 5, none⟩) (n - (n - 1)) (c - (n - 1))]).run Try.prog (W.drew.setCells g 0 news) = .ok (.tuple #[]) ((W.drew.setCells g 0 news).setCells g ((n - 1) * 5) vs) := fun ty => hcl2
  obtain ⟨z5, hz5, hz6⟩ := infoEr3
  obtain ⟨i0, hi0, hz0, hz1, hz2⟩ := info_partsT hz5
  have g1 : (1 : Int) ≤ (n : Int) := by omega
  have g2 : c ≠ 1 := by omega
  clear hset hown hown' hn hnews
  go_enter Try.func72, Try.ntmps72
  go_wp2_with fail
  go_region_law (refine step_append_room rfl _ _ 78 rfl tEr i0 5 undErs hi0 hz1 g 0 0 c rfl ⟨g, 5, none⟩ (n - 1) (c - 1) news rfl hnl.out hnc.out hn1.out (by omega) hth.out ?_)
  (try simp only [Act.put, List.getElem_toArray, List.getElem_cons_succ, List.getElem_cons_zero, List.setIfInBounds_toArray, List.set_cons_zero, List.set_cons_succ])
  go_wp2_with fail
  go_ret
  exact ⟨_, rfl, (hfin.out vs).1, (hfin.out vs).2, rfl⟩
end Go.Proofs.Ytfpjknfgiciokaa

/- errands.add. -/
namespace Go.Proofs.Ytfpjknfgiciokaa
open Go.RowKit Go.Maps
set_option linter.unusedVariables false
set_option linter.unusedSimpArgs false

theorem stepo_setU {P : Program} {ops : Array Oper} {o : Oper} {a : Act} {w : World} {K : Act → World → Prop} {Q : Exit → Act → World → Prop} {E : Prop} (hgd : o.guard = none) (ty : TypeId) (x y : Operand) (ho : o.op = .store ty x y) (g i : Nat) (v : Value) (hx : a.eval x = .pointer (some ⟨g, i, none⟩)) (hy : a.eval y = v) (hv : v.oneCell' = true) (hi : (P.info? ty).map (·.size) = some 1)
    (L L' : List Value) (t : TypeId) (hg : w.heap[g]? = some (.cells L.toArray t (0, 0))) (hl : i < L.length) (hL : L.set i v = L')
    (h : ∀ U, U.heap[g]? = some (.cells L'.toArray t (0, 0)) → Of1 g w U → K (a.put o.dst undef) U) : if Region.wanted o (yielded ops a.tmps) = true then Oper.wp P o a w K Q else E := by
  have hw : Region.wanted o (yielded ops a.tmps) = true := by simp [Region.wanted, hgd]
  rw [if_pos hw]
  have hc : v.cells = #[v] := by cases v <;> first | rfl | cases hv
  have hf : w.frozen? ⟨g, i, none⟩ = false := by simp [World.frozen?, hg]
  have hcell : w.cell? ⟨g, i, none⟩ = some (L[i]) := by rw [Lib.cell_of_heap hg]; simp [hl]
  have hrun : (storeVar ty ⟨g, i, none⟩ v).run P w = .ok () (w.setCell ⟨g, i, none⟩ v) := by
    cases hq : P.info? ty with
    | none => simp [hq] at hi
    | some inf =>
      have hs : inf.size = 1 := by simpa [hq] using hi
      have := run_storeCells_cells (P := P) g i [v] 0 w (fun j hj => by simp at hj; subst hj; simp [hcell]) (fun j hj => by simp at hj; subst hj; simpa using hf) (fun u hu => by simp at hu; rw [hu]; exact hv)
      have e : w.setCells g (i + 0) [v] = w.setCell ⟨g, i, none⟩ v := rfl
      rw [e] at this
      simp [storeVar, sizeOf, typeInfo, hq, hc, hs, this]
  unfold Oper.wp execOp
  simp only [ho, hx, hy, Instr.storeAt, Instr.sureAddr, Sem.run_bind, Sem.run_pure, Result.andThen_ok, hrun]
  refine h _ ?_ (Of1.of_grown (grown_setCell w g i v))
  rw [heap_setCell_own hg, List.setIfInBounds_toArray, hL]
theorem stepo_load1 {P : Program} {ops : Array Oper} {o : Oper} {a : Act} {w : World} {K : Act → World → Prop} {Q : Exit → Act → World → Prop} {E : Prop} (hgd : o.guard = none) (ty : TypeId) (x : Operand) (ho : o.op = .load ty x) (g i : Nat) (hx : a.eval x = .pointer (some ⟨g, i, none⟩)) (v : Value) (hc : w.cell? ⟨g, i, none⟩ = some v) {T : TypeId} (hu : P.underlying ty = some (.slice T))
    (h : K (a.put o.dst v) w) : if Region.wanted o (yielded ops a.tmps) = true then Oper.wp P o a w K Q else E := by
  have hw : Region.wanted o (yielded ops a.tmps) = true := by simp [Region.wanted, hgd]
  rw [if_pos hw]
  have hagg : (isAgg ty).run P w = .ok false w := by
    unfold isAgg
    rw [Sem.run_bind, run_underlying hu w]
    rfl
  have hl : (loadVar ty ⟨g, i, none⟩).run P w = .ok v w := by simp [loadVar, Sem.run_bind, hagg, hc]
  unfold Oper.wp execOp
  simp only [ho, hx, Instr.loadAt, Instr.sureAddr, Sem.run_bind, Sem.run_pure, Result.andThen_ok, hl]
  exact h
/-- all is as in W but for block p, one more block, and new ones -/
structure WX (W : World) (p : Nat) (ob : Option Nat) (U : World) : Prop where
  os : U.os = W.os
  tape : U.tape = W.tape
  output : U.output = W.output
  size : W.heap.size ≤ U.heap.size
  block : ∀ k, k < W.heap.size → k ≠ p → some k ≠ ob → U.heap[k]? = W.heap[k]?
theorem WX.refl (W : World) (p : Nat) (ob : Option Nat) : WX W p ob W := ⟨rfl, rfl, rfl, Nat.le_refl _, fun _ _ _ _ => rfl⟩
theorem WX.bl {W U V : World} {p : Nat} {ob : Option Nat} (h : WX W p ob U) (b : Bl U V) : WX W p ob V :=
  ⟨b.os.trans h.os, b.tape.trans h.tape, b.output.trans h.output, Nat.le_trans h.size b.size, fun k hk h1 h2 => (b.block k (Nat.lt_of_lt_of_le hk h.size)).trans (h.block k hk h1 h2)⟩
theorem WX.of1 {W U V : World} {p : Nat} {ob : Option Nat} (h : WX W p ob U) (b : Of1 p U V) : WX W p ob V :=
  ⟨b.os.trans h.os, b.tape.trans h.tape, b.output.trans h.output, Nat.le_trans h.size b.size, fun k hk h1 h2 => (b.block k (Nat.lt_of_lt_of_le hk h.size) h1).trans (h.block k hk h1 h2)⟩
theorem WX.grown {W U V : World} {p : Nat} {ob o : Option Nat} (h : WX W p ob U) (b : U.grownBy V o) (ho : ∀ k, o = some k → some k = ob ∨ W.heap.size ≤ k) : WX W p ob V :=
  ⟨b.os.trans h.os, b.tape.trans h.tape, b.output.trans h.output, Nat.le_trans h.size b.size, fun k hk h1 h2 => (b.block k (Nat.lt_of_lt_of_le hk h.size) (fun e => by
    rcases ho k e.symm with h3 | h3
    · exact h2 h3
    · omega)).trans (h.block k hk h1 h2)⟩
/-- the scout's block, and the errand that came -/
structure AH (W : World) (p : Nat) (ob : Option Nat) (C : List Value) (bx : Nat) (EL : List Value) (U : World) : Prop where
  wx : WX W p ob U
  row : U.heap[p]? = some (.cells C.toArray tSc (0, 0))
  box : U.heap[bx]? = some (.cells EL.toArray tEr (0, 0))
theorem AH.bl {W U V : World} {p bx : Nat} {ob : Option Nat} {C EL : List Value} (h : AH W p ob C bx EL U) (b : Bl U V) : AH W p ob C bx EL V := ⟨h.wx.bl b, (b.block _ (lt_heap h.row)).trans h.row, (b.block _ (lt_heap h.box)).trans h.box⟩
theorem AH.drewN {W U : World} {p bx : Nat} {ob : Option Nat} {C EL : List Value} (h : AH W p ob C bx EL U) (n : Nat) : AH W p ob C bx EL (U.drewN n) := h.bl ((Bl.refl U).drewN n)
theorem AH.alloc {W U : World} {p bx : Nat} {ob : Option Nat} {C EL : List Value} (h : AH W p ob C bx EL U) (x : Obj) : AH W p ob C bx EL (U.alloc x) := h.bl ((Bl.refl U).alloc x)
theorem own_lt {N k n : Nat} {W : World} {T : TypeId} {v : Value} {xs : List Value} (h : W.ownsRow N T k v n xs) {g : Nat} (e : v.ownBlock = some g) : g < W.heap.size := (owns_ge h e).2
/-- the errands lie elsewhere -/
theorem S0.ers {w W Z : World} {p : Nat} {P : Pl} {B : Nat → Prop} {N : Nat} {s : SO.Sc} (x : S0 w p P B N s W) (L : List SO.Er) (v : Value) (hx : WX W p P.ev.ownBlock Z) (hrow : Z.heap[p]? = some (.cells ((P.cells s).setIfInBounds 18 v) tSc (0, 0))) (ho : Z.ownsRow w.heap.size tEr 5 v L.length (flG lyE L)) (hl : L.length ≤ 16) (hv : ∀ g, v.ownBlock = some g → some g = P.ev.ownBlock ∨ W.heap.size ≤ g) : SX w p B W N { s with er := L } Z := by
  have ne : ∀ {g : Nat} {C : Array Value} {T : TypeId}, W.heap[g]? = some (.cells C T (0, 0)) → T ≠ tEr → T ≠ tSc → Z.heap[g]? = W.heap[g]? := fun {g C T} e t1 t2 => hx.block g (lt_heap e) (fun e2 => by subst e2; exact tags e x.row t2 rfl) (fun e2 => by
    obtain ⟨D, hD⟩ := own_tag x.er e2.symm
    exact tags e hD t1 rfl)
  have nb : Z.heap[P.b]? = W.heap[P.b]? := by
    obtain ⟨es, c, hm⟩ := x.vt.mp.isMap
    refine hx.block _ (lt_heap hm) (fun e => ?_) (fun e => ?_)
    · have hr := x.row
      rw [← e, hm] at hr; cases hr
    · obtain ⟨D, hD⟩ := own_tag x.er e.symm
      rw [hm] at hD; cases hD
  have hos : OS B (fun k => B k ∨ v.ownBlock = some k) W Z := ⟨hx.os, hx.tape, hx.output, hx.size, fun k hk hn => hx.block k hk (fun e => hn (e ▸ x.Bp)) (fun e => hn (x.Be k e.symm)), fun k h => by
    rcases h with h | h
    · exact Or.inl h
    · rcases hv k h with h | h
      · exact Or.inl (x.Be k h.symm)
      · exact Or.inr h⟩
  have hbl : Bl w Z := hos.below x.bl (fun k h => (x.Bo k h).1)
  have nm := x.num
  refine SX.of (P := { P with ev := v }) ⟨?_, ⟨(ne x.vt.row (by decide) (by decide)).trans x.vt.row, x.vt.mp.block nb, x.vt.q0, x.vt.b0, hbl⟩,
    ⟨(ne x.hl.row (by decide) (by decide)).trans x.hl.row, own_keep x.hl.own (fun g C e e2 => ne e2 (by decide) (by decide)), x.hl.b0, hbl, x.hl.rep, x.hl.ok, x.hl.t1, x.hl.t2⟩,
    x.ln.keep (fun g off C e e2 => ne e2 (by decide) (by decide)), x.hp.keep (fun g off C e e2 => ne e2 (by decide) (by decide)), ho, Or.inl x.Bp, Or.inl x.Bq, Or.inl x.Bb, Or.inl x.Bh, (fun g e => Or.inl (x.Bv g e)), (fun g off e => Or.inl (x.Bn g off e)), (fun g off e => Or.inl (x.Ba g off e)), (fun g e => Or.inr e), ?_,
    ⟨nm.n1, nm.n2, nm.q1, nm.q2, nm.s1, nm.s2, nm.m1, nm.m2, nm.m3, nm.p1, nm.p2, nm.ok, hl, nm.ll, nm.l1, nm.hh⟩, x.lcp⟩ hos
  · exact hrow
  · intro k hk
    rcases hk with h | h
    · exact ⟨(x.Bo k h).1, Nat.lt_of_lt_of_le (x.Bo k h).2 hx.size⟩
    · exact owns_ge ho h
theorem infoErs : (Try.prog.info? 78).map (·.size) = some 1 := by kernel_rfl
set_option maxRecDepth 8000 in
set_option maxHeartbeats 4000000 in
theorem add_x {w W : World} {p : Nat} {P : Pl} {B : Nat → Prop} {N : Nat} {s : SO.Sc} (x : S0 w p P B N s W) (e : SO.Er) :
    Calls Try.prog 56 #[.pointer (some ⟨p, 18, none⟩), .agg (erV e)] W fun e' w' => e' = .returned (.tuple #[]) ∧ SX w p B W N { s with er := SO.addE s.er e } w' := by
  obtain ⟨RL, hRL⟩ : ∃ RL, (P.cells s).toList = RL := ⟨_, rfl⟩
  have hRLl : RL.length = 19 := by rw [← hRL]; rfl
  have hR18 : RL[18]? = some P.ev := by rw [← hRL]; rfl
  have HRW : Hid (∀ v, (RL.set 18 v).toArray = (P.cells s).setIfInBounds 18 v) := fun v => by rw [← hRL]; rfl
  have hrow : W.heap[p]? = some (.cells RL.toArray tSc (0, 0)) := by rw [← hRL]; exact x.row
  have hEL : (lyE.f e).length = 5 := lyE.len e
  obtain ⟨fs, humE⟩ := undEr
  have hiE : (Try.prog.info? tEr).map (·.size) = some (lyE.f e).length := by rw [hEL]; exact infoEr
  obtain ⟨z, hz1, hz2⟩ := infoEr3
  have hpl : p < W.heap.size := lt_heap hrow
  have HB : AH W p P.ev.ownBlock RL W.heap.size (lyE.f e) (W.alloc (.cells (lyE.f e).toArray tEr)) := ⟨(WX.refl W _ _).bl ((Bl.refl W).alloc _), (((Bl.refl W).alloc _).block _ hpl).trans hrow, heap_alloc_new _ _⟩
  have SK : Hid (∀ U, AH W p P.ev.ownBlock RL W.heap.size (lyE.f e) U → U.rangeAt W.heap.size 0 (lyE.f e)) := fun U h j v hv => by rw [Nat.zero_add]; exact cellL h.box hv
  have SC : Hid (∀ U, AH W p P.ev.ownBlock RL W.heap.size (lyE.f e) U → U.cell? ⟨p, 18, none⟩ = some P.ev) := fun U h => cellL h.row hR18
  have SK3 : Hid (∀ U V, AH W p P.ev.ownBlock RL W.heap.size (lyE.f e) U → Of1 p U V → V.rangeAt W.heap.size 0 (lyE.f e)) := fun U V h o j v hv => by rw [Nat.zero_add]; exact cellL ((o.block _ (lt_heap h.box) (by omega)).trans h.box) hv
  have hel := x.num.el
  have hws := x.bl.size
  have hb1 : Bl W ((W.alloc (.cells (lyE.f e).toArray tEr)).drewN 1) := ((Bl.refl W).alloc _).drewN 1
  have hsz : w.heap.size ≤ ((W.alloc (.cells (lyE.f e).toArray tEr)).drewN 1).heap.size := Nat.le_trans hws hb1.size
  have HOW : Hid (((W.alloc (.cells (lyE.f e).toArray tEr)).drewN 1).ownsRow w.heap.size tEr 5 P.ev s.er.length (flG lyE s.er)) := ownsRow_bl x.er hb1
  have hob : ∀ g, P.ev.ownBlock = some g → g < W.heap.size ∧ g ≠ p := fun g hg => ⟨own_lt x.er hg, fun e2 => by
    obtain ⟨D, hD⟩ := own_tag x.er hg
    subst e2
    exact tags hD hrow (by decide) rfl⟩
  have HAP : Hid (∀ w2, ((W.alloc (.cells (lyE.f e).toArray tEr)).drewN 1).grownBy w2 P.ev.ownBlock → AH W p P.ev.ownBlock RL W.heap.size (lyE.f e) w2) := fun w2 hg => by
    have h1 := HB.drewN 1
    refine ⟨h1.wx.grown hg (fun k hk => Or.inl hk.symm), (hg.block p (lt_heap h1.row) (fun e2 => (hob p e2.symm).2 rfl)).trans h1.row, (hg.block _ (lt_heap h1.box) (fun e2 => ?_)).trans h1.box⟩
    have := (hob _ e2.symm).1
    omega
  have K18 : Hid (∀ v (U : World), U.heap[p]? = some (.cells (RL.set 18 v).toArray tSc (0, 0)) → U.cell? ⟨p, 18, none⟩ = some v) := fun v U h => cellL h (by rw [List.getElem?_set_self (by omega)])
  have own3 : ∀ (U3 w2 : World) (v : Value) (n : Nat) (L : List SO.Er), w2.ownsRow w.heap.size tEr 5 v n (flG lyE L) → w2.heap[p]? = some (.cells RL.toArray tSc (0, 0)) → Of1 p w2 U3 → U3.ownsRow w.heap.size tEr 5 v n (flG lyE L) := fun U3 w2 v n L h r o => own_keep h (fun g C e e2 => o.block g (lt_heap e2) (fun e3 => by subst e3; exact tags e2 r (by decide) rfl))
  by_cases h16 : s.er.length < 16
  · have FIN : Hid (∀ (U3 w2 : World) (g c' : Nat), w2.ownsRow w.heap.size tEr 5 (.slice (some ⟨g, 0, none⟩) (s.er.length + 1) c') (s.er.length + 1) (flG lyE (s.er ++ [e])) → AH W p P.ev.ownBlock RL W.heap.size (lyE.f e) w2 → (P.ev.ownBlock = some g ∨ ((W.alloc (.cells (lyE.f e).toArray tEr)).drewN 1).heap.size ≤ g) → g < w2.heap.size → U3.heap[p]? = some (.cells (RL.set 18 (.slice (some ⟨g, 0, none⟩) (s.er.length + 1) c')).toArray tSc (0, 0)) → Of1 p w2 U3 → SX w p B W N { s with er := SO.addE s.er e } U3) := fun U3 w2 g c' g1 hz g3 g4 r3 o3 => by
      have ha : SO.addE s.er e = s.er ++ [e] := by unfold SO.addE; rw [if_neg (by omega)]
      rw [ha]
      have hlen : (s.er ++ [e]).length = s.er.length + 1 := by simp
      refine x.ers (s.er ++ [e]) (.slice (some ⟨g, 0, none⟩) (s.er.length + 1) c') (hz.wx.of1 o3) (by rw [← HRW.out]; exact r3) (by rw [hlen]; exact own3 _ _ _ _ _ g1 hz.row o3) (by rw [hlen]; omega) (fun q hq => ?_)
      have e2 : g = q := Option.some.inj hq
      subst e2
      rcases g3 with h | h
      · exact Or.inl h.symm
      · exact Or.inr (Nat.le_trans hb1.size h)
    generalize SO.addE s.er e = L2 at *
    generalize hgn : s.er.length = el at *
    generalize s.er = er at *
    have HEL0 : el = er.length := hgn.symm
    have HEL := hidI HEL0
    clear HEL0
    have h17 : ¬ (16 : Int) < (el : Int) + 1 := by omega
    generalize P.ev = ev at *
    clear x hR18 hRL HRW hob own3 hgn hrow hb1 hpl
    unfold erV
    generalize hELe : lyE.f e = EL at *
    have HEC : Hid (EL.toArray = (lyE.f e).toArray) := by show _ = _; rw [hELe]
    clear hELe
    go_enter Try.func56, Try.ntmps56
    go_wp2_with fail
    refine wp_region_noPanic ?_
    refine wp_region_held_drew (S := fun U => U.rangeAt W.heap.size 0 EL) (by kernel_rfl) ((SK.out _ (HB.drewN 1))) (fun hHeld => ?_)
    refine wpAnyH_take (i := 0) rfl (by kernel_rfl) (by kernel_rfl) (by kernel_rfl) (fun _ _ _ h => h) (yi_move (by kernel_rfl) rfl rfl) (by assumption) ?_
    simp only [Act.put, List.getElem_toArray, List.getElem_cons_succ, List.getElem_cons_zero, List.setIfInBounds_toArray, List.set_cons_zero, List.set_cons_succ]
    refine wpAnyH_take (i := 1) rfl (by kernel_rfl) (by kernel_rfl) (by kernel_rfl) (fun _ _ _ h => h) (yi_move (by kernel_rfl) rfl rfl) (by assumption) ?_
    simp only [Act.put, List.getElem_toArray, List.getElem_cons_succ, List.getElem_cons_zero, List.setIfInBounds_toArray, List.set_cons_zero, List.set_cons_succ]
    refine wpAnyH_take (i := 2) (v := ?_) rfl (by kernel_rfl) (by kernel_rfl) (by kernel_rfl) (fun _ _ _ h => h) (Or.inl ⟨by kernel_rfl, ?_⟩) (by assumption) ?_
    rotate_left
    · (intro w hSw; (try dsimp only at hSw); go_simp; (try with_reducible rfl))
    simp only [Act.put, List.getElem_toArray, List.getElem_cons_succ, List.getElem_cons_zero, List.setIfInBounds_toArray, List.set_cons_zero, List.set_cons_succ]
    refine wpAnyH_take (i := 4) (v := .agg (List.toArray EL)) rfl (by kernel_rfl) (by kernel_rfl) (by kernel_rfl) (fun _ _ _ h => h) (yieldsIf_load_mid (by kernel_rfl) _ (.tmp 3) (by kernel_rfl) W.heap.size 0 (by kernel_rfl) EL _ (fun W hW => hW) humE rfl hiE) (by assumption) ?_
    simp only [Act.put, List.getElem_toArray, List.getElem_cons_succ, List.getElem_cons_zero, List.setIfInBounds_toArray, List.set_cons_zero, List.set_cons_succ]
    refine wpAnyH_ready (rs := [3, 5]) (by kernel_rfl) (by simp) ?_
    refine AllReadyH.cons (o := _) rfl (fun K hK => ?_) ?_
    · refine stepo_load1 rfl 78 _ rfl p 18 (by rfl) ev (SC.out _ (HB.drewN 1)) undErs (hK.out _ _ ((SK.out _ (HB.drewN 1))) (fun hHeld => ?_))
      clear hK K
      (try simp only [Act.put, List.getElem_toArray, List.getElem_cons_succ, List.getElem_cons_zero, List.setIfInBounds_toArray, List.set_cons_zero, List.set_cons_succ])
      refine wpAnyH_ready (rs := [5]) (by kernel_rfl) (by simp) ?_
      refine AllReadyH.cons (o := _) rfl (fun K hK => ?_) AllReadyH.nil
      refine stepo_bs1 rfl 78 tEr _ rfl EL 5 40 (.agg z) undErs hz1 hEL (by omega) (by omega) (by rfl) (hK.out _ _ ((SK.out _ (((HB.drewN 1)).alloc _))) (fun hHeld => ?_))
      clear hK K
      (try simp only [Act.put, List.getElem_toArray, List.getElem_cons_succ, List.getElem_cons_zero, List.setIfInBounds_toArray, List.set_cons_zero, List.set_cons_succ])
      refine wpAnyH_ready (rs := [6]) (by kernel_rfl) (by simp) ?_
      refine AllReadyH.cons (o := _) rfl (fun K hK => ?_) AllReadyH.nil
      refine stepo_app1X lyE tEr 78 (.agg z) 40 undErs hz1 hz2 (by omega) rfl _ _ rfl w.heap.size el er HEL.out e ev (by rfl) hsz HOW.out _ rfl (by rfl) (by omega) ?_ _ HEC.out rfl
      intro g c' w2 g1 g2 g3 g4
      have HZ := HAP.out w2 g2
      refine hK.out _ _ (SK.out _ HZ) (fun hHeld => ?_)
      clear hK K
      (try simp only [Act.put, List.getElem_toArray, List.getElem_cons_succ, List.getElem_cons_zero, List.setIfInBounds_toArray, List.set_cons_zero, List.set_cons_succ])
      refine wpAnyH_take (i := 7) (v := ?_) rfl (by kernel_rfl) (by kernel_rfl) (by kernel_rfl) (fun _ _ _ h => h) (Or.inl ⟨by kernel_rfl, ?_⟩) (by assumption) ?_
      rotate_left
      · (intro w hSw; (try dsimp only at hSw); go_simp; (try with_reducible rfl))
      simp only [Act.put, List.getElem_toArray, List.getElem_cons_succ, List.getElem_cons_zero, List.setIfInBounds_toArray, List.set_cons_zero, List.set_cons_succ]
      refine wpAnyH_ready (rs := [8]) (by kernel_rfl) (by simp) ?_
      refine AllReadyH.cons (o := _) rfl (fun K hK => ?_) AllReadyH.nil
      refine stepo_setU rfl 78 _ _ rfl p 18 (.slice (some ⟨g, 0, none⟩) (el + 1) c') (by rfl) (by rfl) rfl infoErs RL _ tSc HZ.row (by omega) rfl ?_
      intro U3 R3 O3
      refine hK.out _ _ (SK3.out _ _ HZ O3) (fun hHeld => ?_)
      clear hK K
      (try simp only [Act.put, List.getElem_toArray, List.getElem_cons_succ, List.getElem_cons_zero, List.setIfInBounds_toArray, List.set_cons_zero, List.set_cons_succ])
      refine wpAnyH_done (by kernel_rfl) ?_ _
      refine NoPanic.normal ?_
      have k18 := K18.out _ _ R3
      have HF := hidI (FIN.out U3 w2 g c' g1 HZ g3 g4 R3 O3)
      clear g1 g3 g4 HZ O3 g2 R3 hHeld
      have K5 := K18
      (try clear HB SK SC SK3 HAP HOW FIN K18)
      go_wp2_with fail
      refine bodyPost_end (results_none rfl _ _ _) rfl ?_
      exact ⟨rfl, HF.out⟩
    refine AllReadyH.cons (o := _) rfl (fun K hK => ?_) ?_
    · refine stepo_bs1 rfl 78 tEr _ rfl EL 5 40 (.agg z) undErs hz1 hEL (by omega) (by omega) (by rfl) (hK.out _ _ ((SK.out _ (((HB.drewN 1)).alloc _))) (fun hHeld => ?_))
      clear hK K
      (try simp only [Act.put, List.getElem_toArray, List.getElem_cons_succ, List.getElem_cons_zero, List.setIfInBounds_toArray, List.set_cons_zero, List.set_cons_succ])
      refine wpAnyH_ready (rs := [3]) (by kernel_rfl) (by simp) ?_
      refine AllReadyH.cons (o := _) rfl (fun K hK => ?_) AllReadyH.nil
      refine stepo_load1 rfl 78 _ rfl p 18 (by rfl) ev (SC.out _ (((HB.drewN 1)).alloc _)) undErs (hK.out _ _ ((SK.out _ (((HB.drewN 1)).alloc _))) (fun hHeld => ?_))
      clear hK K
      (try simp only [Act.put, List.getElem_toArray, List.getElem_cons_succ, List.getElem_cons_zero, List.setIfInBounds_toArray, List.set_cons_zero, List.set_cons_succ])
      refine wpAnyH_ready (rs := [6]) (by kernel_rfl) (by simp) ?_
      refine AllReadyH.cons (o := _) rfl (fun K hK => ?_) AllReadyH.nil
      refine stepo_app1X lyE tEr 78 (.agg z) 40 undErs hz1 hz2 (by omega) rfl _ _ rfl w.heap.size el er HEL.out e ev (by rfl) hsz HOW.out _ rfl (by rfl) (by omega) ?_ _ HEC.out rfl
      intro g c' w2 g1 g2 g3 g4
      have HZ := HAP.out w2 g2
      refine hK.out _ _ (SK.out _ HZ) (fun hHeld => ?_)
      clear hK K
      (try simp only [Act.put, List.getElem_toArray, List.getElem_cons_succ, List.getElem_cons_zero, List.setIfInBounds_toArray, List.set_cons_zero, List.set_cons_succ])
      refine wpAnyH_take (i := 7) (v := ?_) rfl (by kernel_rfl) (by kernel_rfl) (by kernel_rfl) (fun _ _ _ h => h) (Or.inl ⟨by kernel_rfl, ?_⟩) (by assumption) ?_
      rotate_left
      · (intro w hSw; (try dsimp only at hSw); go_simp; (try with_reducible rfl))
      simp only [Act.put, List.getElem_toArray, List.getElem_cons_succ, List.getElem_cons_zero, List.setIfInBounds_toArray, List.set_cons_zero, List.set_cons_succ]
      refine wpAnyH_ready (rs := [8]) (by kernel_rfl) (by simp) ?_
      refine AllReadyH.cons (o := _) rfl (fun K hK => ?_) AllReadyH.nil
      refine stepo_setU rfl 78 _ _ rfl p 18 (.slice (some ⟨g, 0, none⟩) (el + 1) c') (by rfl) (by rfl) rfl infoErs RL _ tSc HZ.row (by omega) rfl ?_
      intro U3 R3 O3
      refine hK.out _ _ (SK3.out _ _ HZ O3) (fun hHeld => ?_)
      clear hK K
      (try simp only [Act.put, List.getElem_toArray, List.getElem_cons_succ, List.getElem_cons_zero, List.setIfInBounds_toArray, List.set_cons_zero, List.set_cons_succ])
      refine wpAnyH_done (by kernel_rfl) ?_ _
      refine NoPanic.normal ?_
      have k18 := K18.out _ _ R3
      have HF := hidI (FIN.out U3 w2 g c' g1 HZ g3 g4 R3 O3)
      clear g1 g3 g4 HZ O3 g2 R3 hHeld
      have K5 := K18
      (try clear HB SK SC SK3 HAP HOW FIN K18)
      go_wp2_with fail
      refine bodyPost_end (results_none rfl _ _ _) rfl ?_
      exact ⟨rfl, HF.out⟩
    exact AllReadyH.nil
  · have h16e : s.er.length = 16 := by omega
    have FIN : Hid (∀ (U3 w2 : World) (g c' : Nat), w2.ownsRow w.heap.size tEr 5 (.slice (some ⟨g, 0, none⟩) (s.er.length + 1) c') (s.er.length + 1) (flG lyE (s.er ++ [e])) → AH W p P.ev.ownBlock RL W.heap.size (lyE.f e) w2 → (P.ev.ownBlock = some g ∨ ((W.alloc (.cells (lyE.f e).toArray tEr)).drewN 1).heap.size ≤ g) → g < w2.heap.size → U3.heap[p]? = some (.cells (RL.set 18 (.slice (some ⟨g, 0, none⟩) (s.er.length + 1) c')).toArray tSc (0, 0)) → Of1 p w2 U3 → Calls Try.prog 72 #[.slice (some ⟨g, 0, none⟩) (s.er.length + 1) c', .int .i64 0, .int .i64 1] U3 fun e5 w5 => ∃ v5, e5 = .returned v5 ∧ (w5.heap[p]? = some (.cells (RL.set 18 (.slice (some ⟨g, 0, none⟩) (s.er.length + 1) c')).toArray tSc (0, 0)) ∧ v5.oneCell' = true) ∧ ∀ U6 : World, U6.heap[p]? = some (.cells ((RL.set 18 (.slice (some ⟨g, 0, none⟩) (s.er.length + 1) c')).set 18 v5).toArray tSc (0, 0)) → Of1 p w5 U6 → SX w p B W N { s with er := SO.addE s.er e } U6) := fun U3 w2 g c' g1 hz g3 g4 r3 o3 => by
      have ha : SO.addE s.er e = (s.er ++ [e]).drop 1 := by unfold SO.addE; rw [if_pos (by omega)]
      rw [ha]
      have hlen : (s.er ++ [e]).length = s.er.length + 1 := by simp
      have ho3 := own3 _ _ _ _ _ g1 hz.row o3
      have hgp : g ≠ p := fun e2 => by
        subst e2
        obtain ⟨D, hD⟩ := own_tag g1 (g := g) rfl
        exact tags hD hz.row (by decide) rfl
      refine (DeleteE (n := s.er.length + 1) hlen.symm ho3 (by omega) (by omega)).mono ?_
      rintro e5 w5 ⟨v5, rfl, q1, q2, q3⟩
      have hr5 : w5.heap[p]? = some (.cells (RL.set 18 (.slice (some ⟨g, 0, none⟩) (s.er.length + 1) c')).toArray tSc (0, 0)) := (q2.block p (lt_heap r3) (fun e2 => hgp (Option.some.inj e2).symm)).trans r3
      have hv5 : v5.oneCell' = true := by
        obtain ⟨_, ⟨h1, _⟩ | ⟨g', cap', cur, h1, _⟩⟩ := q1
        · rw [h1]; rfl
        · rw [h1]; rfl
      refine ⟨v5, rfl, ⟨hr5, hv5⟩, fun U6 r6 o6 => ?_⟩
      rw [List.set_set] at r6
      have hl2 : ((s.er ++ [e]).drop 1).length = s.er.length + 1 - 1 := by rw [List.length_drop, hlen]
      refine x.ers ((s.er ++ [e]).drop 1) v5 (((hz.wx.of1 o3).grown q2 (fun k hk => ?_)).of1 o6) (by rw [← HRW.out]; exact r6) ?_ (by rw [hl2]; omega) (fun q hq => ?_)
      · have e2 : g = k := Option.some.inj hk
        subst e2
        rcases g3 with h | h
        · exact Or.inl h.symm
        · exact Or.inr (Nat.le_trans hb1.size h)
      · rw [hl2]
        exact own_keep q1 (fun g2 C e e2 => o6.block g2 (lt_heap e2) (fun e3 => by subst e3; exact tags e2 hr5 (by decide) rfl))
      · rw [q3] at hq
        have e2 : g = q := Option.some.inj hq
        subst e2
        rcases g3 with h | h
        · exact Or.inl h.symm
        · exact Or.inr (Nat.le_trans hb1.size h)
    generalize SO.addE s.er e = L2 at *
    generalize hgn : s.er.length = el at *
    generalize s.er = er at *
    have HEL0 : el = er.length := hgn.symm
    have HEL := hidI HEL0
    clear HEL0
    have h17 : (16 : Int) < (el : Int) + 1 := by omega
    generalize P.ev = ev at *
    clear x hR18 hRL HRW hob own3 hgn hrow hb1 hpl h16e
    unfold erV
    generalize hELe : lyE.f e = EL at *
    have HEC : Hid (EL.toArray = (lyE.f e).toArray) := by show _ = _; rw [hELe]
    clear hELe
    go_enter Try.func56, Try.ntmps56
    go_wp2_with fail
    refine wp_region_noPanic ?_
    refine wp_region_held_drew (S := fun U => U.rangeAt W.heap.size 0 EL) (by kernel_rfl) ((SK.out _ (HB.drewN 1))) (fun hHeld => ?_)
    refine wpAnyH_take (i := 0) rfl (by kernel_rfl) (by kernel_rfl) (by kernel_rfl) (fun _ _ _ h => h) (yi_move (by kernel_rfl) rfl rfl) (by assumption) ?_
    simp only [Act.put, List.getElem_toArray, List.getElem_cons_succ, List.getElem_cons_zero, List.setIfInBounds_toArray, List.set_cons_zero, List.set_cons_succ]
    refine wpAnyH_take (i := 1) rfl (by kernel_rfl) (by kernel_rfl) (by kernel_rfl) (fun _ _ _ h => h) (yi_move (by kernel_rfl) rfl rfl) (by assumption) ?_
    simp only [Act.put, List.getElem_toArray, List.getElem_cons_succ, List.getElem_cons_zero, List.setIfInBounds_toArray, List.set_cons_zero, List.set_cons_succ]
    refine wpAnyH_take (i := 2) (v := ?_) rfl (by kernel_rfl) (by kernel_rfl) (by kernel_rfl) (fun _ _ _ h => h) (Or.inl ⟨by kernel_rfl, ?_⟩) (by assumption) ?_
    rotate_left
    · (intro w hSw; (try dsimp only at hSw); go_simp; (try with_reducible rfl))
    simp only [Act.put, List.getElem_toArray, List.getElem_cons_succ, List.getElem_cons_zero, List.setIfInBounds_toArray, List.set_cons_zero, List.set_cons_succ]
    refine wpAnyH_take (i := 4) (v := .agg (List.toArray EL)) rfl (by kernel_rfl) (by kernel_rfl) (by kernel_rfl) (fun _ _ _ h => h) (yieldsIf_load_mid (by kernel_rfl) _ (.tmp 3) (by kernel_rfl) W.heap.size 0 (by kernel_rfl) EL _ (fun W hW => hW) humE rfl hiE) (by assumption) ?_
    simp only [Act.put, List.getElem_toArray, List.getElem_cons_succ, List.getElem_cons_zero, List.setIfInBounds_toArray, List.set_cons_zero, List.set_cons_succ]
    refine wpAnyH_ready (rs := [3, 5]) (by kernel_rfl) (by simp) ?_
    refine AllReadyH.cons (o := _) rfl (fun K hK => ?_) ?_
    · refine stepo_load1 rfl 78 _ rfl p 18 (by rfl) ev (SC.out _ (HB.drewN 1)) undErs (hK.out _ _ ((SK.out _ (HB.drewN 1))) (fun hHeld => ?_))
      clear hK K
      (try simp only [Act.put, List.getElem_toArray, List.getElem_cons_succ, List.getElem_cons_zero, List.setIfInBounds_toArray, List.set_cons_zero, List.set_cons_succ])
      refine wpAnyH_ready (rs := [5]) (by kernel_rfl) (by simp) ?_
      refine AllReadyH.cons (o := _) rfl (fun K hK => ?_) AllReadyH.nil
      refine stepo_bs1 rfl 78 tEr _ rfl EL 5 40 (.agg z) undErs hz1 hEL (by omega) (by omega) (by rfl) (hK.out _ _ ((SK.out _ (((HB.drewN 1)).alloc _))) (fun hHeld => ?_))
      clear hK K
      (try simp only [Act.put, List.getElem_toArray, List.getElem_cons_succ, List.getElem_cons_zero, List.setIfInBounds_toArray, List.set_cons_zero, List.set_cons_succ])
      refine wpAnyH_ready (rs := [6]) (by kernel_rfl) (by simp) ?_
      refine AllReadyH.cons (o := _) rfl (fun K hK => ?_) AllReadyH.nil
      refine stepo_app1X lyE tEr 78 (.agg z) 40 undErs hz1 hz2 (by omega) rfl _ _ rfl w.heap.size el er HEL.out e ev (by rfl) hsz HOW.out _ rfl (by rfl) (by omega) ?_ _ HEC.out rfl
      intro g c' w2 g1 g2 g3 g4
      have HZ := HAP.out w2 g2
      refine hK.out _ _ (SK.out _ HZ) (fun hHeld => ?_)
      clear hK K
      (try simp only [Act.put, List.getElem_toArray, List.getElem_cons_succ, List.getElem_cons_zero, List.setIfInBounds_toArray, List.set_cons_zero, List.set_cons_succ])
      refine wpAnyH_take (i := 7) (v := ?_) rfl (by kernel_rfl) (by kernel_rfl) (by kernel_rfl) (fun _ _ _ h => h) (Or.inl ⟨by kernel_rfl, ?_⟩) (by assumption) ?_
      rotate_left
      · (intro w hSw; (try dsimp only at hSw); go_simp; (try with_reducible rfl))
      simp only [Act.put, List.getElem_toArray, List.getElem_cons_succ, List.getElem_cons_zero, List.setIfInBounds_toArray, List.set_cons_zero, List.set_cons_succ]
      refine wpAnyH_ready (rs := [8]) (by kernel_rfl) (by simp) ?_
      refine AllReadyH.cons (o := _) rfl (fun K hK => ?_) AllReadyH.nil
      refine stepo_setU rfl 78 _ _ rfl p 18 (.slice (some ⟨g, 0, none⟩) (el + 1) c') (by rfl) (by rfl) rfl infoErs RL _ tSc HZ.row (by omega) rfl ?_
      intro U3 R3 O3
      refine hK.out _ _ (SK3.out _ _ HZ O3) (fun hHeld => ?_)
      clear hK K
      (try simp only [Act.put, List.getElem_toArray, List.getElem_cons_succ, List.getElem_cons_zero, List.setIfInBounds_toArray, List.set_cons_zero, List.set_cons_succ])
      refine wpAnyH_done (by kernel_rfl) ?_ _
      refine NoPanic.normal ?_
      have k18 := K18.out _ _ R3
      have HF := hidI (FIN.out U3 w2 g c' g1 HZ g3 g4 R3 O3)
      clear g1 g3 g4 HZ O3 g2 R3 hHeld
      have K5 := K18
      (try clear HB SK SC SK3 HAP HOW FIN K18)
      go_wp2_with (first
        | (go_at_call 72; refine (HF.out).mono ?_; clear HF; rintro e5 w5 ⟨v5, rfl, ⟨r5, o5⟩, f5⟩; have R5 := hidI r5; have F5 := hidI f5; clear r5 f5 k18; have k18 := K5.out _ _ R5.out)
        | (refine wl_setU rfl 78 _ _ rfl p 18 v5 rfl rfl o5 infoErs _ _ tSc R5.out (by rw [List.length_set]; omega) rfl ?_; intro U6 R6 O6; have HG := hidI (F5.out U6 R6 O6); clear R6 O6 R5 F5))
      refine bodyPost_end (results_none rfl _ _ _) rfl ?_
      exact ⟨rfl, HG.out⟩
    refine AllReadyH.cons (o := _) rfl (fun K hK => ?_) ?_
    · refine stepo_bs1 rfl 78 tEr _ rfl EL 5 40 (.agg z) undErs hz1 hEL (by omega) (by omega) (by rfl) (hK.out _ _ ((SK.out _ (((HB.drewN 1)).alloc _))) (fun hHeld => ?_))
      clear hK K
      (try simp only [Act.put, List.getElem_toArray, List.getElem_cons_succ, List.getElem_cons_zero, List.setIfInBounds_toArray, List.set_cons_zero, List.set_cons_succ])
      refine wpAnyH_ready (rs := [3]) (by kernel_rfl) (by simp) ?_
      refine AllReadyH.cons (o := _) rfl (fun K hK => ?_) AllReadyH.nil
      refine stepo_load1 rfl 78 _ rfl p 18 (by rfl) ev (SC.out _ (((HB.drewN 1)).alloc _)) undErs (hK.out _ _ ((SK.out _ (((HB.drewN 1)).alloc _))) (fun hHeld => ?_))
      clear hK K
      (try simp only [Act.put, List.getElem_toArray, List.getElem_cons_succ, List.getElem_cons_zero, List.setIfInBounds_toArray, List.set_cons_zero, List.set_cons_succ])
      refine wpAnyH_ready (rs := [6]) (by kernel_rfl) (by simp) ?_
      refine AllReadyH.cons (o := _) rfl (fun K hK => ?_) AllReadyH.nil
      refine stepo_app1X lyE tEr 78 (.agg z) 40 undErs hz1 hz2 (by omega) rfl _ _ rfl w.heap.size el er HEL.out e ev (by rfl) hsz HOW.out _ rfl (by rfl) (by omega) ?_ _ HEC.out rfl
      intro g c' w2 g1 g2 g3 g4
      have HZ := HAP.out w2 g2
      refine hK.out _ _ (SK.out _ HZ) (fun hHeld => ?_)
      clear hK K
      (try simp only [Act.put, List.getElem_toArray, List.getElem_cons_succ, List.getElem_cons_zero, List.setIfInBounds_toArray, List.set_cons_zero, List.set_cons_succ])
      refine wpAnyH_take (i := 7) (v := ?_) rfl (by kernel_rfl) (by kernel_rfl) (by kernel_rfl) (fun _ _ _ h => h) (Or.inl ⟨by kernel_rfl, ?_⟩) (by assumption) ?_
      rotate_left
      · (intro w hSw; (try dsimp only at hSw); go_simp; (try with_reducible rfl))
      simp only [Act.put, List.getElem_toArray, List.getElem_cons_succ, List.getElem_cons_zero, List.setIfInBounds_toArray, List.set_cons_zero, List.set_cons_succ]
      refine wpAnyH_ready (rs := [8]) (by kernel_rfl) (by simp) ?_
      refine AllReadyH.cons (o := _) rfl (fun K hK => ?_) AllReadyH.nil
      refine stepo_setU rfl 78 _ _ rfl p 18 (.slice (some ⟨g, 0, none⟩) (el + 1) c') (by rfl) (by rfl) rfl infoErs RL _ tSc HZ.row (by omega) rfl ?_
      intro U3 R3 O3
      refine hK.out _ _ (SK3.out _ _ HZ O3) (fun hHeld => ?_)
      clear hK K
      (try simp only [Act.put, List.getElem_toArray, List.getElem_cons_succ, List.getElem_cons_zero, List.setIfInBounds_toArray, List.set_cons_zero, List.set_cons_succ])
      refine wpAnyH_done (by kernel_rfl) ?_ _
      refine NoPanic.normal ?_
      have k18 := K18.out _ _ R3
      have HF := hidI (FIN.out U3 w2 g c' g1 HZ g3 g4 R3 O3)
      clear g1 g3 g4 HZ O3 g2 R3 hHeld
      have K5 := K18
      (try clear HB SK SC SK3 HAP HOW FIN K18)
      go_wp2_with (first
        | (go_at_call 72; refine (HF.out).mono ?_; clear HF; rintro e5 w5 ⟨v5, rfl, ⟨r5, o5⟩, f5⟩; have R5 := hidI r5; have F5 := hidI f5; clear r5 f5 k18; have k18 := K5.out _ _ R5.out)
        | (refine wl_setU rfl 78 _ _ rfl p 18 v5 rfl rfl o5 infoErs _ _ tSc R5.out (by rw [List.length_set]; omega) rfl ?_; intro U6 R6 O6; have HG := hidI (F5.out U6 R6 O6); clear R6 O6 R5 F5))
      refine bodyPost_end (results_none rfl _ _ _) rfl ?_
      exact ⟨rfl, HG.out⟩
    exact AllReadyH.nil
end Go.Proofs.Ytfpjknfgiciokaa

/- Leave. -/
namespace Go.Proofs.Ytfpjknfgiciokaa
open Go.RowKit Go.Maps
set_option linter.unusedVariables false
set_option linter.unusedSimpArgs false

theorem Leave_nil (W : World) : Calls Try.prog 15 #[.pointer none] W fun e w' => e = .returned (.slice none 0 0) ∧ w' = W := by
  go_enter Try.func15, Try.ntmps15
  go_wp2_with fail
  go_ret
  exact ⟨rfl, rfl⟩
theorem oth_len6 (s : SO.Sc) : (SO.oth s).length ≤ 6 := by
  unfold SO.oth
  have h1 := List.length_filter_le (fun k => !(k == s.me)) (K.pres s.f)
  have h3 := K.preL_len (K.all s.f) (K.all s.f).length
  rw [K.preL_all] at h3
  have := K.allN_len s.f 6
  unfold K.all at h3
  omega
theorem learn_me' (s : SO.Sc) (k st : Int) : (SO.turn s k st).me = s.me := learn_me _ _
set_option maxRecDepth 8000 in
set_option maxHeartbeats 4000000 in
theorem Leave_x {w W : World} {p : Nat} {P : Pl} {B : Nat → Prop} {N : Nat} {s : SO.Sc} (x : S0 w p P B N s W) (hN : N ≤ 100000000000) :
    Calls Try.prog 15 #[.pointer (some ⟨p, 0, none⟩)] W fun e w' => Ans w p B W (N + 1) (SO.leave s).1 (SO.leave s).2 e w' := by
  have C1 : Hid (Calls Try.prog 22 #[.pointer (some ⟨p, 0, none⟩)] W fun e w' => e = .returned (.bool (SO.left s)) ∧ Bl W w') := hasLeft_x x
  have HA : Hid (SO.leave s = if SO.left s = true then (s, []) else (SO.tellS (SO.turn s s.me 3) ((SO.oth (SO.turn s s.me 3)).map (fun k => SO.ack k 0 s.me)), SO.tellL (SO.turn s s.me 3) ((SO.oth (SO.turn s s.me 3)).map (fun k => SO.ack k 0 s.me)))) := rfl
  cases ho : SO.left s with
  | true =>
    rw [ho] at C1 HA
    have HE : Hid ((SO.leave s).1 = s ∧ (SO.leave s).2 = []) := by show _ ∧ _; rw [HA.out]; exact ⟨rfl, rfl⟩
    rw [HE.out.1, HE.out.2]
    have HX : Hid (∀ U, Bl W U → SX w p B W (N + 1) s U) := fun U h => SX.of ((x.grow h).more (Nat.le_succ N)) (OS.of_bl h)
    clear x HA HE ho
    go_enter Try.func15, Try.ntmps15
    go_wp2_with (go_at_call 22; refine (C1.out).mono ?_; clear C1; rintro e w1 ⟨rfl, h1⟩; have H1 := hidI h1; clear h1)
    go_ret
    exact ans_none (HX.out _ H1.out)
  | false =>
    rw [ho] at C1 HA
    obtain ⟨s2, hs2⟩ : ∃ s2, SO.turn s s.me 3 = s2 := ⟨_, rfl⟩
    have hm2 : s2.me = s.me := by rw [← hs2]; exact learn_me' _ _ _
    rw [hs2] at HA
    have HE : Hid ((SO.leave s).1 = SO.tellS s2 ((SO.oth s2).map (fun k => SO.ack k 0 s.me)) ∧ (SO.leave s).2 = SO.tellL s2 ((SO.oth s2).map (fun k => SO.ack k 0 s.me))) := by show _ ∧ _; rw [HA.out]; exact ⟨rfl, rfl⟩
    rw [HE.out.1, HE.out.2]
    have hme : i64 s.me := by have h1 := x.num.m1; have h2 := x.num.m2; have h3 := x.num.m3; exact ⟨by omega, by omega⟩
    have K10 : Hid (∀ U, Bl W U → U.cell? ⟨p, 10, none⟩ = some (.int .i64 s.me)) := fun U h => (x.grow h).c10
    have CT1 : Hid (∀ U, Bl W U → Calls Try.prog 28 #[.pointer (some ⟨p, 0, none⟩), .int .i64 s.me, .int .i64 3] U fun e w' => e = .returned (.tuple #[]) ∧ SX w p B W (N + 1) s2 w') := fun U h => (turn_x (x.grow h) hN s.me 3 hme).mono fun e w' ⟨h1, h2⟩ => ⟨h1, by rw [← hs2]; exact SX.trans (OS.of_bl h) h2⟩
    have CO : Hid (∀ U, SX w p B W (N + 1) s2 U → Calls Try.prog 36 #[.pointer (some ⟨p, 0, none⟩)] U fun e w' => ∃ a c, e = .returned (.slice a (SO.oth s2).length c) ∧ RS lyI w' a (SO.oth s2) ∧ SX w p B W (N + 1) s2 w' ∧ Hid (∀ V, Bl w' V → V.cell? ⟨p, 10, none⟩ = some (.int .i64 s.me))) := fun U h => by
      obtain ⟨B', ⟨P', X⟩, O⟩ := id h
      refine (others_x X).mono ?_
      rintro e w' ⟨v, rfl, h1, h2⟩
      obtain ⟨a, c, rfl, h3⟩ := owns_rs lyI h1
      exact ⟨a, c, rfl, h3, h.grow h2, fun V hV => by rw [← hm2]; exact (X.grow (h2.step hV)).c10⟩
    have hhl := oth_len6 s2
    obtain ⟨z, hz1, hz2⟩ := infoSn3
    have HFL : Hid (∀ U U' a c, SX w p B W (N + 1) s2 U → Bl U U' → RS lyS U' a (((SO.oth s2).map (fun k => SO.ack k 0 s.me)).map bs0) → (∀ g off, a = some ⟨g, off, none⟩ → U.heap.size ≤ g) → Calls Try.prog 18 #[.pointer (some ⟨p, 0, none⟩), .slice a (SO.oth s2).length c] U' fun e w' => Ans w p B W (N + 1) (SO.tellS s2 ((SO.oth s2).map (fun k => SO.ack k 0 s.me))) (SO.tellL s2 ((SO.oth s2).map (fun k => SO.ack k 0 s.me))) e w') := fun U U' a c h1 h2 h3 h4 => by
      have := tell_sx h1 ((SO.oth s2).map (fun k => SO.ack k 0 s.me)) (by simp; omega) U' h2 a c h3 h4
      rwa [List.length_map] at this
    generalize SO.oth s2 = hs at *
    clear x HA HE ho hm2 hs2 hme
    generalize s.me = me at *
    go_enter Try.func15, Try.ntmps15
    go_wp2_with (go_at_call 22; refine (C1.out).mono ?_; clear C1; rintro e w1 ⟨rfl, h1⟩; have k10 := K10.out _ h1.drew; have H1 := hidI h1; clear h1)
    go_region_with (go_at_call 28; refine (CT1.out _ ?_).mono ?_; exact (H1.out.drew); rintro e w2 ⟨rfl, h2⟩; have H2 := hidI h2; clear h2 k10 H1)
    go_wp2_with (go_at_call 36; refine (CO.out _ H2.out).mono ?_; clear CO H2; rintro e w3 ⟨a, c, rfl, h1, h2, HK⟩; have HRS := hidI h1; have HSX := hidI h2; clear h1 h2)
    (try simp only [Act.put, List.getElem_toArray, List.getElem_cons_succ, List.getElem_cons_zero, List.setIfInBounds_toArray, List.set_cons_zero, List.set_cons_succ])
    go_loopw [3, 5, 23] (fun u3 _ u23 wr => ∃ k : Nat, k ≤ hs.length ∧ u23 = .int .i64 (k : Int) ∧ Bl w3 wr ∧ wr.ownsRow w3.heap.size tSn 238 u3 k (flG lyS (((hs.take k).map (fun h => SO.ack h 0 me)).map bs0))) (fun _ _ u23 _ => hs.length - (intOf u23).toNat)
    case atStart => exact ⟨0, by omega, rfl, Bl.refl _, ⟨rfl, Or.inl ⟨rfl, rfl⟩⟩⟩
    case round =>
     obtain ⟨k, hk, rfl, hbl, how⟩ := hrel
     by_cases hlt : k < hs.length
     · obtain ⟨y, hy⟩ : ∃ y, hs[k]? = some y := ⟨hs[k], List.getElem?_eq_getElem hlt⟩
       obtain ⟨b, off, rfl, hbb, ky⟩ := (HRS.out.bl hbl).at1 hy
       have k10 := HK.out wr hbl
       have HTK : Hid (((hs.take (k + 1)).map (fun h => SO.ack h 0 me)).map bs0 = ((hs.take k).map (fun h => SO.ack h 0 me)).map bs0 ++ [bs0 (SO.ack y 0 me)]) := by
         show _ = _
         rw [List.take_add_one, hy, Option.toList_some, List.map_append, List.map_append]; rfl
       obtain ⟨FK, hFK0⟩ : ∃ FK, (hs.take k).map (fun h => SO.ack h 0 me) = FK := ⟨_, rfl⟩
       have HFK : Hid (k = (FK.map bs0).length) := by show _ = _; rw [← hFK0]; simp; omega
       rw [hFK0] at how HTK
       have CA : Hid (Calls Try.prog 33 #[.int .i64 y, .int .i64 0, .int .i64 me] wr fun e w' => e = .returned (.agg (snL y 2 0 0 me zM nilV).toArray) ∧ Bl wr w') := ack_x y 0 me wr
       have HOW : Hid (∀ U, Bl wr U → U.ownsRow w3.heap.size tSn 238 u3 k (flG lyS (FK.map bs0))) := fun U h => ownsRow_bl how h
       have HSZ : Hid (∀ U, Bl wr U → w3.heap.size ≤ U.heap.size) := fun U h => Below.size (hbl.step h)
       have HGB : Hid (∀ U w2, Bl wr U → U.grownBy w2 u3.ownBlock → Bl w3 w2) := fun U w2 hb hg => grown_new (hbl.step hb) (Nat.le_refl _) (fun q e => (owns_ge how e).1) hg
       have HLA : Hid ((snL y 2 0 0 me zM nilV).toArray = (lyS.f (bs0 (SO.ack y 0 me))).toArray) := rfl
       obtain ⟨L, hL0⟩ : ∃ L, snL y 2 0 0 me zM nilV = L := ⟨_, rfl⟩
       have hL : L.length = 238 := by rw [← hL0]; exact snL_len zM_len
       rw [hL0] at CA HLA
       clear hy hFK0 hL0 how hbl HRS HSX HFL HK
       go_wp2_with (first
         | (go_at_call 33; refine (CA.out).mono ?_; clear CA; rintro e w4 ⟨rfl, h4⟩; have H4 := hidI h4; clear h4)
         | (refine wl_bs1 rfl 33 tSn _ rfl L 238 408 (.agg z) undSs hz1 hL (by omega) (by omega) rfl ?_)
         | (refine wl_app1X lyS tSn 33 (.agg z) 408 undSs hz1 hz2 (by omega) rfl _ _ rfl w3.heap.size k (FK.map bs0) HFK.out (bs0 (SO.ack y 0 me)) u3 rfl (HSZ.out _ H4.out) (HOW.out _ H4.out) w4.heap.size rfl rfl (by omega) ?_ _ HLA.out rfl; intro g c' w5 g1 g2 g3 g4; have G1 := hidI g1; have G2 := hidI (HGB.out _ _ H4.out g2); clear g1 g2 g3 g4))
       go_roundw
       case rel => exact ⟨k + 1, by omega, by go_num, G2.out, by rw [HTK.out]; exact G1.out⟩
       case measure => simp [intOf]; omega
     · obtain rfl : k = hs.length := by omega
       rw [List.take_length] at how
       obtain ⟨a5, c5, rfl, r5⟩ := owns_rs lyS (ks := (hs.map (fun h => SO.ack h 0 me)).map bs0) (by rw [List.length_map, List.length_map]; exact how)
       have hge : ∀ g off, a5 = some ⟨g, off, none⟩ → w3.heap.size ≤ g := fun g off e => (owns_ge how (by rw [e]; rfl)).1
       simp only [List.length_map]
       have CT := hidI (HFL.out w3 wr a5 c5 HSX.out hbl r5 hge)
       clear how r5 hge HFL hbl HRS HSX HK
       obtain ⟨R1, hR1⟩ : ∃ R1, SO.tellS s2 (hs.map (fun h => SO.ack h 0 me)) = R1 := ⟨_, rfl⟩
       obtain ⟨R2, hR2⟩ : ∃ R2, SO.tellL s2 (hs.map (fun h => SO.ack h 0 me)) = R2 := ⟨_, rfl⟩
       rw [hR1, hR2] at CT
       have HR1 := hidI hR1
       have HR2 := hidI hR2
       clear hR1 hR2
       go_wp2_with (go_at_call 18; refine (CT.out).mono ?_; clear CT; rintro e w7 h7; obtain ⟨a7, c7, ys7, B7, rfl, h8⟩ := h7; have H8 := hidI h8; clear h8)
       go_ret
       exact ⟨a7, c7, ys7, B7, by rw [HR2.out]; rfl, by rw [HR1.out, HR2.out]; exact H8.out⟩
end Go.Proofs.Ytfpjknfgiciokaa

/- runErrand. -/
namespace Go.Proofs.Ytfpjknfgiciokaa
open Go.RowKit Go.Maps
set_option linter.unusedVariables false
set_option linter.unusedSimpArgs false

/-- a scout behind a call, and an errand in a block of its own -/
def RX (w : World) (p : Nat) (B : Nat → Prop) (W : World) (N : Nat) (s : SO.Sc) (g : Nat) (C : Array Value) (U : World) : Prop := ∃ B', SC w p B' N s U ∧ OS B B' W U ∧ ¬ B' g ∧ (w.heap.size ≤ g ∧ W.heap.size ≤ g) ∧ U.heap[g]? = some (.cells C tEr (0, 0))
theorem RX.sx {w W U : World} {p N g : Nat} {B : Nat → Prop} {s : SO.Sc} {C : Array Value} (h : RX w p B W N s g C U) : SX w p B W N s U := by
  obtain ⟨B', x, o, _⟩ := h
  exact ⟨B', x, o⟩
theorem RX.row {w W U : World} {p N g : Nat} {B : Nat → Prop} {s : SO.Sc} {C : Array Value} (h : RX w p B W N s g C U) : U.heap[g]? = some (.cells C tEr (0, 0)) := by
  obtain ⟨B', x, o, _, _, r⟩ := h
  exact r
theorem SX.boxE {w W U : World} {p N : Nat} {B : Nat → Prop} {s : SO.Sc} (h : SX w p B W N s U) (C : Array Value) : RX w p B W N s U.heap.size C (U.alloc (.cells C tEr)) := by
  obtain ⟨B', ⟨P, x⟩, o⟩ := h
  exact ⟨B', ⟨P, x.grow ((Bl.refl U).alloc _)⟩, o.trans (OS.of_bl ((Bl.refl U).alloc _)), fun hB => by have := (x.Bo _ hB).2; omega, ⟨x.bl.size, o.size⟩, heap_alloc_new _ _⟩
theorem RX.grow {w W U V : World} {p N g : Nat} {B : Nat → Prop} {s : SO.Sc} {C : Array Value} (h : RX w p B W N s g C U) (b : Bl U V) : RX w p B W N s g C V := by
  obtain ⟨B', ⟨P, x⟩, o, a, c, r⟩ := h
  exact ⟨B', ⟨P, x.grow b⟩, o.trans (OS.of_bl b), a, c, (b.block _ (lt_heap r)).trans r⟩
theorem RX.set {w W U : World} {p N g : Nat} {B : Nat → Prop} {s : SO.Sc} {C : Array Value} (h : RX w p B W N s g C U) (D : Array Value) : RX w p B W N s g D (U.setRow g D) := by
  obtain ⟨B', ⟨P, x⟩, o, a, c, r⟩ := h
  have o1 := of1_setRow U g D
  exact ⟨B', ⟨P, x.keep o1.size (o1.bl x.bl c.1) (fun k hk => o1.block k (x.Bo k hk).2 (fun e => a (e ▸ hk)))⟩, ⟨o1.os.trans o.os, o1.tape.trans o.tape, o1.output.trans o.output, Nat.le_trans o.size o1.size, fun k hk hn => (o1.block k (Nat.lt_of_lt_of_le hk o.size) (fun e => by have := c.2; omega)).trans (o.block k hk hn), o.own⟩, a, c, setRow_heap _ _ _ _ _ _ r⟩
theorem RX.step {w W U V : World} {p N M g : Nat} {B B' : Nat → Prop} {s t : SO.Sc} {C : Array Value} (x : SC w p B' N s U) (o : OS B B' W U) (a : ¬ B' g) (c : w.heap.size ≤ g ∧ W.heap.size ≤ g) (r : U.heap[g]? = some (.cells C tEr (0, 0))) (h : SX w p B' U M t V) : RX w p B W M t g C V := by
  obtain ⟨B'', y, o2⟩ := h
  refine ⟨B'', y, o.trans o2, fun hB => ?_, c, (o2.block _ (lt_heap r) a).trans r⟩
  rcases o2.own g hB with h | h
  · exact a h
  · have := lt_heap r; omega
theorem RX.next {w W U : World} {p N g : Nat} {B : Nat → Prop} {s : SO.Sc} {C : Array Value} (h : RX w p B W N s g C U) (hN : N ≤ 100000000000) : Calls Try.prog 50 #[.pointer (some ⟨p, 0, none⟩)] U fun e w' => e = .returned (.int .i64 (s.seq + 1)) ∧ RX w p B W (N + 1) { s with seq := s.seq + 1 } g C w' := by
  obtain ⟨B', ⟨P, x⟩, o, a, c, r⟩ := h
  exact (nextSeq_sx (SX.refl ⟨P, x⟩) hN).mono fun e w' ⟨h1, h2⟩ => ⟨h1, RX.step ⟨P, x⟩ o a c r h2⟩
theorem RX.add {w W U : World} {p N g : Nat} {B : Nat → Prop} {s : SO.Sc} {C : Array Value} (h : RX w p B W N s g C U) (e : SO.Er) : Calls Try.prog 56 #[.pointer (some ⟨p, 18, none⟩), .agg (erV e)] U fun e' w' => e' = .returned (.tuple #[]) ∧ RX w p B W N { s with er := SO.addE s.er e } g C w' := by
  obtain ⟨B', ⟨P, x⟩, o, a, c, r⟩ := h
  exact (add_x x e).mono fun e w' ⟨h1, h2⟩ => ⟨h1, RX.step ⟨P, x⟩ o a c r h2⟩
theorem build109 (sq nd fr ak : Int) : Try.prog.built 109 [(0, .int .i64 sq), (1, .int .i64 nd), (2, .int .i64 fr), (3, .int .i64 ak)] = some (erV ⟨sq, nd, fr, ak, false⟩) := by kernel_rfl
/-- the frame in its box stays -/
theorem boxS {w W : World} {p N : Nat} {P : Pl} {B : Nat → Prop} {s : SO.Sc} (x : S0 w p P B N s W) (FL : List Value) (f : SO.Fr) (a : Option Addr) (c : Nat) (hf : FrC FL f a c) : ∀ N s U, SX w p B (W.alloc (.cells FL.toArray tFr)) N s U → U.cell? ⟨W.heap.size, 1, none⟩ = some (.int .i64 f.frm) ∧ U.cell? ⟨W.heap.size, 2, none⟩ = some (.int .i64 f.seq) ∧ U.cell? ⟨W.heap.size, 3, none⟩ = some (.int .i64 f.node) := fun N s U h => by
  have hbx : (W.alloc (.cells FL.toArray tFr)).heap[W.heap.size]? = some (.cells FL.toArray tFr (0, 0)) := heap_alloc_new _ _
  have hnb : ¬ B W.heap.size := fun h => by have := (x.Bo _ h).2; omega
  obtain ⟨B', _, o⟩ := h
  have b := (o.block _ (lt_heap hbx) hnb).trans hbx
  exact ⟨cellL b hf.k1, cellL b hf.k2, cellL b hf.k3⟩
set_option maxRecDepth 8000 in
set_option maxHeartbeats 8000000 in
theorem runErrand_x {w W : World} {p : Nat} {P : Pl} {B : Nat → Prop} {N : Nat} {s : SO.Sc} (x : S0 w p P B N s W) (hN : N ≤ 100000000000) (FL : List Value) (f : SO.Fr) (a : Option Addr) (c : Nat) (hf : FrC FL f a c) :
    Calls Try.prog 34 #[.pointer (some ⟨p, 0, none⟩), .agg FL.toArray] W fun e w' => Ans w p B W (N + 1) (SO.errand s f).1 (SO.errand s f).2 e w' := by
  have hb0 : Bl W (W.alloc (.cells FL.toArray tFr)) := (Bl.refl W).alloc _
  have HK := hidI (boxS x FL f a c hf)
  have H0 : Hid (SX w p B (W.alloc (.cells FL.toArray tFr)) N s (W.alloc (.cells FL.toArray tFr))) := SX.refl ⟨P, x.grow hb0⟩
  have HFIN : Hid (∀ M t fs e w', M ≤ N + 1 → Ans w p B (W.alloc (.cells FL.toArray tFr)) M t fs e w' → Ans w p B W (N + 1) t fs e w') := fun M t fs e w' hM h => (Ans.from (OS.of_bl hb0) h).more hM
  have C1 : Hid (∀ U, SX w p B (W.alloc (.cells FL.toArray tFr)) N s U → Calls Try.prog 29 #[.pointer (some ⟨p, 0, none⟩), .int .i64 f.node] U fun e w' => e = .returned (.bool (SO.other s f.node)) ∧ SX w p B (W.alloc (.cells FL.toArray tFr)) N s w' ∧ w'.cell? ⟨W.heap.size, 1, none⟩ = some (.int .i64 f.frm) ∧ w'.cell? ⟨W.heap.size, 3, none⟩ = some (.int .i64 f.node)) := fun U h => (isOther_sx h _).mono fun e w' ⟨h1, h2⟩ => ⟨h1, h2, (HK.out _ _ _ h2).1, (HK.out _ _ _ h2).2.2⟩
  have HH : Hid (SO.errand s f = if (SO.other s f.node && !(f.node == f.frm)) = true then (SO.tellS { s with seq := s.seq + 1, er := SO.addE s.er ⟨s.seq + 1, f.node, f.frm, f.seq, false⟩ } [SO.ping f.node (s.seq + 1)], SO.tellL { s with seq := s.seq + 1, er := SO.addE s.er ⟨s.seq + 1, f.node, f.frm, f.seq, false⟩ } [SO.ping f.node (s.seq + 1)]) else (s, [])) := rfl
  have q1 : FL[3]? = some (.int .i64 f.node) := hf.k3
  have q2 : FL.toArray[3]? = some (.int .i64 f.node) := by simpa using hf.k3
  have q3 : (W.alloc (.cells FL.toArray tFr)).cell? ⟨W.heap.size, 3, none⟩ = some (.int .i64 f.node) := (HK.out N s _ H0.out).2.2
  clear hf x hb0
  cases ho : SO.other s f.node with
  | false =>
    rw [ho] at C1 HH
    have HE : Hid ((SO.errand s f).1 = s ∧ (SO.errand s f).2 = []) := by show _ ∧ _; rw [HH.out]; exact ⟨rfl, rfl⟩
    rw [HE.out.1, HE.out.2]
    clear HH HE ho
    go_enter Try.func34, Try.ntmps34
    go_wp2_with (go_at_call 29; refine (C1.out _ H0.out).mono ?_; clear C1 H0; rintro e w1 ⟨rfl, h1, _, _⟩; have H1 := hidI h1; clear h1)
    go_ret
    exact HFIN.out N s [] _ _ (by omega) (ans_none H1.out)
  | true =>
    rw [ho] at C1 HH
    obtain ⟨zz, hzz⟩ : ∃ zz, (f.node == f.frm) = zz := ⟨_, rfl⟩
    rw [hzz] at HH
    cases zz with
    | true =>
      have HE : Hid ((SO.errand s f).1 = s ∧ (SO.errand s f).2 = []) := by show _ ∧ _; rw [HH.out]; exact ⟨rfl, rfl⟩
      rw [HE.out.1, HE.out.2]
      clear HH HE ho
      go_enter Try.func34, Try.ntmps34
      go_wp2_with (go_at_call 29; refine (C1.out _ H0.out).mono ?_; clear C1 H0; rintro e w1 ⟨rfl, h1, k1, k3⟩; have H1 := hidI h1; clear h1)
      go_ret
      exact HFIN.out N s [] _ _ (by omega) (ans_none H1.out)
    | false =>
      obtain ⟨e0, he0⟩ : ∃ e0 : SO.Er, e0 = ⟨s.seq + 1, f.node, f.frm, f.seq, false⟩ := ⟨_, rfl⟩
      obtain ⟨s2, hs2⟩ : ∃ s2 : SO.Sc, s2 = { s with seq := s.seq + 1, er := SO.addE s.er e0 } := ⟨_, rfl⟩
      have HE : Hid (SO.errand s f = (SO.tellS s2 [SO.ping f.node (s.seq + 1)], SO.tellL s2 [SO.ping f.node (s.seq + 1)])) := by show _ = _; rw [HH.out, hs2, he0]; rfl
      have b9 : Try.prog.built 109 (#[(0, .int .i64 (s.seq + 1)), (1, .int .i64 f.node), (2, .int .i64 f.frm), (3, .int .i64 f.seq)] : Array (Nat × Value)).toList = some (erV e0) := by rw [he0]; exact build109 _ _ _ _
      have CN : Hid (∀ U, SX w p B (W.alloc (.cells FL.toArray tFr)) N s U → Calls Try.prog 50 #[.pointer (some ⟨p, 0, none⟩)] U fun e w' => e = .returned (.int .i64 (s.seq + 1)) ∧ SX w p B (W.alloc (.cells FL.toArray tFr)) (N + 1) { s with seq := s.seq + 1 } w') := fun U h => nextSeq_sx h hN
      have CNR : Hid (∀ g C U, RX w p B (W.alloc (.cells FL.toArray tFr)) N s g C U → Calls Try.prog 50 #[.pointer (some ⟨p, 0, none⟩)] U fun e w' => e = .returned (.int .i64 (s.seq + 1)) ∧ RX w p B (W.alloc (.cells FL.toArray tFr)) (N + 1) { s with seq := s.seq + 1 } g C w') := fun g C U h => h.next hN
      have CAD : Hid (∀ g U, RX w p B (W.alloc (.cells FL.toArray tFr)) (N + 1) { s with seq := s.seq + 1 } g (erV e0) U → Calls Try.prog 56 #[.pointer (some ⟨p, 18, none⟩), .agg (erV e0)] U fun e' w' => e' = .returned (.tuple #[]) ∧ RX w p B (W.alloc (.cells FL.toArray tFr)) (N + 1) s2 g (erV e0) w') := fun g U h => by rw [hs2]; exact h.add e0
      have CP : Hid (∀ U, SX w p B (W.alloc (.cells FL.toArray tFr)) (N + 1) s2 U → Calls Try.prog 51 #[.int .i64 f.node, .int .i64 (s.seq + 1)] U fun e w' => e = .returned (.agg (snL f.node 1 0 (s.seq + 1) 0 zM nilV).toArray) ∧ SX w p B (W.alloc (.cells FL.toArray tFr)) (N + 1) s2 w') := fun U h => ping_sx h _ _
      have CT : Hid (∀ U V, SX w p B (W.alloc (.cells FL.toArray tFr)) (N + 1) s2 U → V = U.alloc (.cells (snL f.node 1 0 (s.seq + 1) 0 zM nilV).toArray tSn) → Calls Try.prog 18 #[.pointer (some ⟨p, 0, none⟩), .slice (some ⟨U.heap.size, 0, none⟩) 1 1] V fun e w' => Ans w p B (W.alloc (.cells FL.toArray tFr)) (N + 1) (SO.tellS s2 [SO.ping f.node (s.seq + 1)]) (SO.tellL s2 [SO.ping f.node (s.seq + 1)]) e w') := fun U V h hV => tell1_sx h (SO.ping f.node (s.seq + 1)) _ rfl V hV
      have hL : (snL f.node 1 0 (s.seq + 1) 0 zM nilV).length = 238 := snL_len zM_len
      have HFN := hidI (fun e w' => HFIN.out (N + 1) (SO.tellS s2 [SO.ping f.node (s.seq + 1)]) (SO.tellL s2 [SO.ping f.node (s.seq + 1)]) e w' (Nat.le_refl _))
      have HES : Hid ((SO.errand s f).1 = SO.tellS s2 [SO.ping f.node (s.seq + 1)] ∧ (SO.errand s f).2 = SO.tellL s2 [SO.ping f.node (s.seq + 1)]) := by show _ ∧ _; rw [HE.out]; exact ⟨rfl, rfl⟩
      rw [HES.out.1, HES.out.2]
      obtain ⟨s1, hs1⟩ : ∃ s1 : SO.Sc, ({ s with seq := s.seq + 1 } : SO.Sc) = s1 := ⟨_, rfl⟩
      rw [hs1] at CN CNR CAD
      have HCE : Hid (erV e0 = #[.int .i64 (s.seq + 1), .int .i64 f.node, .int .i64 f.frm, .int .i64 f.seq, .bool false]) := by show _ = _; rw [he0]; rfl
      rw [HCE.out] at CAD b9
      obtain ⟨z, hz1, hz2⟩ := infoSn3
      clear HH HE HES hs2 hs1 HFIN he0 HCE ho
      generalize SO.tellS s2 [SO.ping f.node (s.seq + 1)] = R1 at *
      generalize SO.tellL s2 [SO.ping f.node (s.seq + 1)] = R2 at *
      generalize snL f.node 1 0 (s.seq + 1) 0 zM nilV = L at *
      go_enter Try.func34, Try.ntmps34
      go_wp2_with (go_at_call 29; refine (C1.out _ H0.out).mono ?_; clear C1 H0 q1 q2 q3; rintro e w1 ⟨rfl, h1, k1, k3⟩; have H1 := hidI h1; clear h1)
      clear k1 k3
      generalize W.alloc (.cells FL.toArray tFr) = W1 at *
      generalize W.heap.size = fb at *
      have SK : Hid (∀ N s U, SX w p B W1 N s U → U.cell? ⟨fb, 1, none⟩ = some (.int .i64 f.frm) ∧ U.cell? ⟨fb, 2, none⟩ = some (.int .i64 f.seq) ∧ U.cell? ⟨fb, 3, none⟩ = some (.int .i64 f.node)) := HK.out
      have HB : SX w p B W1 N s w1 := H1.out
      clear HK H1
      generalize f.node = node at *
      generalize f.frm = frm at *
      generalize f.seq = seq at *
      generalize hq1 : s.seq + 1 = sq1 at *
      clear hq1
      refine wp_region_noPanic ?_
      refine wp_region_held_drew (S := fun U => U.cell? ⟨fb, 1, none⟩ = some (.int .i64 frm) ∧ U.cell? ⟨fb, 2, none⟩ = some (.int .i64 seq) ∧ U.cell? ⟨fb, 3, none⟩ = some (.int .i64 node)) (by kernel_rfl) ((by first | exact SK.out _ _ _ (HB.drewN 1) | exact SK.out _ _ _ ((HB.drewN 1)).sx)) (fun hHeld => ?_)
      refine wpAnyH_take (i := 0) rfl (by kernel_rfl) (by kernel_rfl) (by kernel_rfl) (fun _ _ _ h => h) (yi_move (by kernel_rfl) rfl rfl) (by assumption) ?_
      simp only [Act.put, List.getElem_toArray, List.getElem_cons_succ, List.getElem_cons_zero, List.setIfInBounds_toArray, List.set_cons_zero, List.set_cons_succ]
      refine wpAnyH_take (i := 2) (v := ?_) rfl (by kernel_rfl) (by kernel_rfl) (by kernel_rfl) (fun _ _ _ h => h) (Or.inl ⟨by kernel_rfl, ?_⟩) (by assumption) ?_
      rotate_left
      · (intro w hSw; (try dsimp only at hSw); go_simp; (try with_reducible rfl))
      simp only [Act.put, List.getElem_toArray, List.getElem_cons_succ, List.getElem_cons_zero, List.setIfInBounds_toArray, List.set_cons_zero, List.set_cons_succ]
      refine wpAnyH_take (i := 3) (v := ?_) rfl (by kernel_rfl) (by kernel_rfl) (by kernel_rfl) (fun _ _ _ h => h) (Or.inl ⟨by kernel_rfl, ?_⟩) (by assumption) ?_
      rotate_left
      · (intro w hSw; obtain ⟨e1, e2, e3⟩ := hSw; go_simp; (try with_reducible rfl))
      simp only [Act.put, List.getElem_toArray, List.getElem_cons_succ, List.getElem_cons_zero, List.setIfInBounds_toArray, List.set_cons_zero, List.set_cons_succ]
      refine wpAnyH_take (i := 4) (v := ?_) rfl (by kernel_rfl) (by kernel_rfl) (by kernel_rfl) (fun _ _ _ h => h) (Or.inl ⟨by kernel_rfl, ?_⟩) (by assumption) ?_
      rotate_left
      · (intro w hSw; (try dsimp only at hSw); go_simp; (try with_reducible rfl))
      simp only [Act.put, List.getElem_toArray, List.getElem_cons_succ, List.getElem_cons_zero, List.setIfInBounds_toArray, List.set_cons_zero, List.set_cons_succ]
      refine wpAnyH_take (i := 5) (v := ?_) rfl (by kernel_rfl) (by kernel_rfl) (by kernel_rfl) (fun _ _ _ h => h) (Or.inl ⟨by kernel_rfl, ?_⟩) (by assumption) ?_
      rotate_left
      · (intro w hSw; obtain ⟨e1, e2, e3⟩ := hSw; go_simp; (try with_reducible rfl))
      simp only [Act.put, List.getElem_toArray, List.getElem_cons_succ, List.getElem_cons_zero, List.setIfInBounds_toArray, List.set_cons_zero, List.set_cons_succ]
      refine wpAnyH_take (i := 6) (v := ?_) rfl (by kernel_rfl) (by kernel_rfl) (by kernel_rfl) (fun _ _ _ h => h) (Or.inl ⟨by kernel_rfl, ?_⟩) (by assumption) ?_
      rotate_left
      · (intro w hSw; (try dsimp only at hSw); go_simp; (try with_reducible rfl))
      simp only [Act.put, List.getElem_toArray, List.getElem_cons_succ, List.getElem_cons_zero, List.setIfInBounds_toArray, List.set_cons_zero, List.set_cons_succ]
      refine wpAnyH_take (i := 7) (v := ?_) rfl (by kernel_rfl) (by kernel_rfl) (by kernel_rfl) (fun _ _ _ h => h) (Or.inl ⟨by kernel_rfl, ?_⟩) (by assumption) ?_
      rotate_left
      · (intro w hSw; obtain ⟨e1, e2, e3⟩ := hSw; go_simp; (try with_reducible rfl))
      simp only [Act.put, List.getElem_toArray, List.getElem_cons_succ, List.getElem_cons_zero, List.setIfInBounds_toArray, List.set_cons_zero, List.set_cons_succ]
      refine wpAnyH_ready (rs := [1, 9]) (by kernel_rfl) (by simp) ?_
      refine AllReadyH.cons (o := _) rfl (fun K hK => ?_) ?_
      · go_simp
        go_at_call 50; (first | (refine (CN.out _ (HB.drewN 1)).mono ?_) | (refine (CNR.out _ _ _ (HB.drewN 1)).mono ?_)); rintro e V8 ⟨rfl, HB8⟩
        refine hK.out _ _ ((by first | exact SK.out _ _ _ HB8 | exact SK.out _ _ _ (HB8).sx)) (fun hHeld => ?_)
        clear hK K
        (try simp only [Act.put, List.getElem_toArray, List.getElem_cons_succ, List.getElem_cons_zero, List.setIfInBounds_toArray, List.set_cons_zero, List.set_cons_succ])
        refine wpAnyH_take (i := 8) (v := .agg #[.int .i64 sq1, .int .i64 node, .int .i64 frm, .int .i64 seq, .bool false]) rfl (by kernel_rfl) (by kernel_rfl) (by kernel_rfl) (fun _ _ _ h => h) (yi_buildS (by kernel_rfl) rfl #[(0, .int .i64 sq1), (1, .int .i64 node), (2, .int .i64 frm), (3, .int .i64 seq)] (by rfl) (fun w => run_build w _ _ _ b9)) (by assumption) ?_
        simp only [Act.put, List.getElem_toArray, List.getElem_cons_succ, List.getElem_cons_zero, List.setIfInBounds_toArray, List.set_cons_zero, List.set_cons_succ]
        refine wpAnyH_ready (rs := [9]) (by kernel_rfl) (by simp) ?_
        refine AllReadyH.cons (o := _) rfl (fun K hK => ?_) AllReadyH.nil
        go_simp
        refine hK.out _ _ ((by first | exact SK.out _ _ _ (SX.boxE HB8 #[.int .i64 0, .int .i64 0, .int .i64 0, .int .i64 0, .bool false]) | exact SK.out _ _ _ ((SX.boxE HB8 #[.int .i64 0, .int .i64 0, .int .i64 0, .int .i64 0, .bool false])).sx)) (fun hHeld => ?_)
        clear hK K
        (try simp only [Act.put, List.getElem_toArray, List.getElem_cons_succ, List.getElem_cons_zero, List.setIfInBounds_toArray, List.set_cons_zero, List.set_cons_succ])
        refine wpAnyH_ready (rs := [10]) (by kernel_rfl) (by simp) ?_
        refine AllReadyH.cons (o := _) rfl (fun K hK => ?_) AllReadyH.nil
        refine stepo_storeR rfl tEr _ _ rfl _ #[.int .i64 sq1, .int .i64 node, .int .i64 frm, .int .i64 seq, .bool false] (by rfl) (by rfl) tEr _ ((SX.boxE HB8 #[.int .i64 0, .int .i64 0, .int .i64 0, .int .i64 0, .bool false])).row infoEr rfl (by simp [Value.oneCell']) (hK.out _ _ ((by first | exact SK.out _ _ _ (((SX.boxE HB8 #[.int .i64 0, .int .i64 0, .int .i64 0, .int .i64 0, .bool false])).set #[.int .i64 sq1, .int .i64 node, .int .i64 frm, .int .i64 seq, .bool false]) | exact SK.out _ _ _ ((((SX.boxE HB8 #[.int .i64 0, .int .i64 0, .int .i64 0, .int .i64 0, .bool false])).set #[.int .i64 sq1, .int .i64 node, .int .i64 frm, .int .i64 seq, .bool false])).sx)) (fun hHeld => ?_))
        clear hK K
        (try simp only [Act.put, List.getElem_toArray, List.getElem_cons_succ, List.getElem_cons_zero, List.setIfInBounds_toArray, List.set_cons_zero, List.set_cons_succ])
        refine wpAnyH_done (by kernel_rfl) ?_ _
        refine NoPanic.normal ?_
        first | (have HR0 : Hid (RX w p B W1 (N + 1) s1 w1.heap.size #[.int .i64 sq1, .int .i64 node, .int .i64 frm, .int .i64 seq, .bool false] _) := (((SX.boxE HB8 #[.int .i64 0, .int .i64 0, .int .i64 0, .int .i64 0, .bool false])).set #[.int .i64 sq1, .int .i64 node, .int .i64 frm, .int .i64 seq, .bool false])) | (have HR0 := hidI ((((SX.boxE HB8 #[.int .i64 0, .int .i64 0, .int .i64 0, .int .i64 0, .bool false])).set #[.int .i64 sq1, .int .i64 node, .int .i64 frm, .int .i64 seq, .bool false])))
        obtain ⟨U, hU, HR1⟩ : ∃ U', U' = _ ∧ Hid (RX w p B W1 (N + 1) s1 _ #[.int .i64 sq1, .int .i64 node, .int .i64 frm, .int .i64 seq, .bool false] U') := ⟨_, rfl, HR0⟩
        rw [← hU]
        obtain ⟨g, hg, HR⟩ : ∃ g', g' = _ ∧ Hid (RX w p B W1 (N + 1) s1 g' #[.int .i64 sq1, .int .i64 node, .int .i64 frm, .int .i64 seq, .bool false] U) := ⟨_, rfl, HR1⟩
        rw [← hg]
        clear hHeld HR0 HR1 hU hg
        have HD := hidI (HR.out.grow ((Bl.refl U).drew))
        have r4 := HD.out.row
        have k0 : U.drew.cell? ⟨g, 0, none⟩ = some (.int .i64 sq1) := (by rw [Lib.cell_of_heap r4]; rfl)
        have k1 : U.drew.cell? ⟨g, 1, none⟩ = some (.int .i64 node) := (by rw [Lib.cell_of_heap r4]; rfl)
        have k2 : U.drew.cell? ⟨g, 2, none⟩ = some (.int .i64 frm) := (by rw [Lib.cell_of_heap r4]; rfl)
        have k3 : U.drew.cell? ⟨g, 3, none⟩ = some (.int .i64 seq) := (by rw [Lib.cell_of_heap r4]; rfl)
        have k4 : U.drew.cell? ⟨g, 4, none⟩ = some (.bool false) := (by rw [Lib.cell_of_heap r4]; rfl)
        clear r4
        go_wp2_with fail
        go_region_with (go_at_call 56; refine (CAD.out _ _ HD.out).mono ?_; rintro e w6 ⟨rfl, h6⟩; have H6 := hidI h6; clear h6)
        clear k0 k1 k2 k3 k4
        have r5 := H6.out.row
        have k0 : w6.cell? ⟨g, 0, none⟩ = some (.int .i64 sq1) := (by rw [Lib.cell_of_heap r5]; rfl)
        have k1 : w6.cell? ⟨g, 1, none⟩ = some (.int .i64 node) := (by rw [Lib.cell_of_heap r5]; rfl)
        clear r5
        go_wp2_with (first
          | (go_at_call 51; refine (CP.out _ H6.out.sx).mono ?_; clear CP; rintro e w7 ⟨rfl, h7⟩; have HX := hidI h7; clear h7)
          | (refine wl_bs1 rfl 33 tSn _ rfl L 238 408 (.agg z) undSs hz1 hL (by omega) (by omega) rfl ?_)
          | (go_at_call 18; refine (CT.out _ _ HX.out rfl).mono ?_; clear HX; rintro e w8 h8; obtain ⟨a7, c7, ys7, B7, he, h9⟩ := id h8; subst he; clear h9; have H8 := hidI h8; clear h8))
        go_ret
        exact HFN.out _ _ H8.out
      refine AllReadyH.cons (o := _) rfl (fun K hK => ?_) ?_
      · go_simp
        refine hK.out _ _ ((by first | exact SK.out _ _ _ (SX.boxE (HB.drewN 1) #[.int .i64 0, .int .i64 0, .int .i64 0, .int .i64 0, .bool false]) | exact SK.out _ _ _ ((SX.boxE (HB.drewN 1) #[.int .i64 0, .int .i64 0, .int .i64 0, .int .i64 0, .bool false])).sx)) (fun hHeld => ?_)
        clear hK K
        (try simp only [Act.put, List.getElem_toArray, List.getElem_cons_succ, List.getElem_cons_zero, List.setIfInBounds_toArray, List.set_cons_zero, List.set_cons_succ])
        refine wpAnyH_ready (rs := [1]) (by kernel_rfl) (by simp) ?_
        refine AllReadyH.cons (o := _) rfl (fun K hK => ?_) AllReadyH.nil
        go_simp
        go_at_call 50; (first | (refine (CN.out _ (SX.boxE (HB.drewN 1) #[.int .i64 0, .int .i64 0, .int .i64 0, .int .i64 0, .bool false])).mono ?_) | (refine (CNR.out _ _ _ (SX.boxE (HB.drewN 1) #[.int .i64 0, .int .i64 0, .int .i64 0, .int .i64 0, .bool false])).mono ?_)); rintro e V12 ⟨rfl, HB12⟩
        refine hK.out _ _ ((by first | exact SK.out _ _ _ HB12 | exact SK.out _ _ _ (HB12).sx)) (fun hHeld => ?_)
        clear hK K
        (try simp only [Act.put, List.getElem_toArray, List.getElem_cons_succ, List.getElem_cons_zero, List.setIfInBounds_toArray, List.set_cons_zero, List.set_cons_succ])
        refine wpAnyH_take (i := 8) (v := .agg #[.int .i64 sq1, .int .i64 node, .int .i64 frm, .int .i64 seq, .bool false]) rfl (by kernel_rfl) (by kernel_rfl) (by kernel_rfl) (fun _ _ _ h => h) (yi_buildS (by kernel_rfl) rfl #[(0, .int .i64 sq1), (1, .int .i64 node), (2, .int .i64 frm), (3, .int .i64 seq)] (by rfl) (fun w => run_build w _ _ _ b9)) (by assumption) ?_
        simp only [Act.put, List.getElem_toArray, List.getElem_cons_succ, List.getElem_cons_zero, List.setIfInBounds_toArray, List.set_cons_zero, List.set_cons_succ]
        refine wpAnyH_ready (rs := [10]) (by kernel_rfl) (by simp) ?_
        refine AllReadyH.cons (o := _) rfl (fun K hK => ?_) AllReadyH.nil
        refine stepo_storeR rfl tEr _ _ rfl _ #[.int .i64 sq1, .int .i64 node, .int .i64 frm, .int .i64 seq, .bool false] (by rfl) (by rfl) tEr _ (HB12).row infoEr rfl (by simp [Value.oneCell']) (hK.out _ _ ((by first | exact SK.out _ _ _ ((HB12).set #[.int .i64 sq1, .int .i64 node, .int .i64 frm, .int .i64 seq, .bool false]) | exact SK.out _ _ _ (((HB12).set #[.int .i64 sq1, .int .i64 node, .int .i64 frm, .int .i64 seq, .bool false])).sx)) (fun hHeld => ?_))
        clear hK K
        (try simp only [Act.put, List.getElem_toArray, List.getElem_cons_succ, List.getElem_cons_zero, List.setIfInBounds_toArray, List.set_cons_zero, List.set_cons_succ])
        refine wpAnyH_done (by kernel_rfl) ?_ _
        refine NoPanic.normal ?_
        first | (have HR0 : Hid (RX w p B W1 (N + 1) s1 w1.heap.size #[.int .i64 sq1, .int .i64 node, .int .i64 frm, .int .i64 seq, .bool false] _) := ((HB12).set #[.int .i64 sq1, .int .i64 node, .int .i64 frm, .int .i64 seq, .bool false])) | (have HR0 := hidI (((HB12).set #[.int .i64 sq1, .int .i64 node, .int .i64 frm, .int .i64 seq, .bool false])))
        obtain ⟨U, hU, HR1⟩ : ∃ U', U' = _ ∧ Hid (RX w p B W1 (N + 1) s1 _ #[.int .i64 sq1, .int .i64 node, .int .i64 frm, .int .i64 seq, .bool false] U') := ⟨_, rfl, HR0⟩
        rw [← hU]
        obtain ⟨g, hg, HR⟩ : ∃ g', g' = _ ∧ Hid (RX w p B W1 (N + 1) s1 g' #[.int .i64 sq1, .int .i64 node, .int .i64 frm, .int .i64 seq, .bool false] U) := ⟨_, rfl, HR1⟩
        rw [← hg]
        clear hHeld HR0 HR1 hU hg
        have HD := hidI (HR.out.grow ((Bl.refl U).drew))
        have r4 := HD.out.row
        have k0 : U.drew.cell? ⟨g, 0, none⟩ = some (.int .i64 sq1) := (by rw [Lib.cell_of_heap r4]; rfl)
        have k1 : U.drew.cell? ⟨g, 1, none⟩ = some (.int .i64 node) := (by rw [Lib.cell_of_heap r4]; rfl)
        have k2 : U.drew.cell? ⟨g, 2, none⟩ = some (.int .i64 frm) := (by rw [Lib.cell_of_heap r4]; rfl)
        have k3 : U.drew.cell? ⟨g, 3, none⟩ = some (.int .i64 seq) := (by rw [Lib.cell_of_heap r4]; rfl)
        have k4 : U.drew.cell? ⟨g, 4, none⟩ = some (.bool false) := (by rw [Lib.cell_of_heap r4]; rfl)
        clear r4
        go_wp2_with fail
        go_region_with (go_at_call 56; refine (CAD.out _ _ HD.out).mono ?_; rintro e w6 ⟨rfl, h6⟩; have H6 := hidI h6; clear h6)
        clear k0 k1 k2 k3 k4
        have r5 := H6.out.row
        have k0 : w6.cell? ⟨g, 0, none⟩ = some (.int .i64 sq1) := (by rw [Lib.cell_of_heap r5]; rfl)
        have k1 : w6.cell? ⟨g, 1, none⟩ = some (.int .i64 node) := (by rw [Lib.cell_of_heap r5]; rfl)
        clear r5
        go_wp2_with (first
          | (go_at_call 51; refine (CP.out _ H6.out.sx).mono ?_; clear CP; rintro e w7 ⟨rfl, h7⟩; have HX := hidI h7; clear h7)
          | (refine wl_bs1 rfl 33 tSn _ rfl L 238 408 (.agg z) undSs hz1 hL (by omega) (by omega) rfl ?_)
          | (go_at_call 18; refine (CT.out _ _ HX.out rfl).mono ?_; clear HX; rintro e w8 h8; obtain ⟨a7, c7, ys7, B7, he, h9⟩ := id h8; subst he; clear h9; have H8 := hidI h8; clear h8))
        go_ret
        exact HFN.out _ _ H8.out
      exact AllReadyH.nil
end Go.Proofs.Ytfpjknfgiciokaa
