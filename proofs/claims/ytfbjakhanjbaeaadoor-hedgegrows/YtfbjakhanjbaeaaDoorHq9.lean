/- The texts HgF HgH as one. -/
import Derived.Test.YtfbjakhanjbaeaaDoorHq8
/- hedge's filled, Of: a range of records. -/
namespace Go.Proofs.YtfbjakhanjbaeaaDoor
open Go.RowKit Go.Maps Go.Sort Go.Shelf Go.Lib
set_option linter.unusedVariables false
set_option linter.unusedSimpArgs false

/-- a struct built of parts -/
theorem wl_build {P : Program} {ops : Array Oper} {rest : List Oper} {o : Oper} {a : Act} {w : World} {Q : Exit → Act → World → Prop} (hg : o.guard = none) (t : TypeId) (parts : Array (Nat × Operand)) (ho : o.op = .build t parts) (L : List (Nat × Value)) (hp : (parts.map fun (i, x) => (i, a.eval x)).toList = L) (C : Array Value) (hf : P.built t L = some C)
    (h : wpList P ops Q rest (a.put o.dst (.agg C)) w) : wpList P ops Q (o :: rest) a w := by
  subst hp
  exact wpList_build hg t parts ho (by rw [hf]; rfl) (by rw [hf]; exact h)
/-- one cell of a row is stored; the world behind it by a name of its own -/
theorem wl_setU {P : Program} {ops : Array Oper} {rest : List Oper} {o : Oper} {a : Act} {w : World} {Q : Exit → Act → World → Prop} (hgd : o.guard = none) (ty : TypeId) (x y : Operand) (ho : o.op = .store ty x y) (g i : Nat) (v : Value) (hx : a.eval x = .pointer (some ⟨g, i, none⟩)) (hy : a.eval y = v) (hv : v.oneCell' = true) (hi : (P.info? ty).map (·.size) = some 1)
    (L L' : List Value) (t : TypeId) (hg : w.heap[g]? = some (.cells L.toArray t (0, 0))) (hl : i < L.length) (hL : L.set i v = L')
    (h : ∀ U, U.heap[g]? = some (.cells L'.toArray t (0, 0)) → Of1 g w U → wpList P ops Q rest (a.put o.dst undef) U) : wpList P ops Q (o :: rest) a w := by
  refine wpList_plain hgd fun _ hK => ?_
  have hc : v.cells = #[v] := by cases v <;> first | rfl | cases hv
  have hf : w.frozen? ⟨g, i, none⟩ = false := by simp [World.frozen?, hg]
  have hcell : w.cell? ⟨g, i, none⟩ = some (L[i]) := by rw [Lib.cell_of_heap hg]; simp [hl]
  have hrun : (storeVar ty ⟨g, i, none⟩ v).run P w = .ok () (w.setCell ⟨g, i, none⟩ v) := by
    cases hq : P.info? ty with
    | none => simp [hq] at hi
    | some inf =>
      have hs : inf.size = 1 := by simpa [hq] using hi
      have := run_storeCells_cells (P := P) g i [v] 0 w (fun j hj => by simp at hj; subst hj; simp [hcell]) (fun j hj => by simp at hj; subst hj; simpa using hf) (fun u hu => by simp at hu; rw [hu]; exact hv)
      have e : w.setCells g (i + 0) [v] = w.setCell ⟨g, i, none⟩ v := rfl
      rw [e] at this
      simp [storeVar, sizeOf, typeInfo, hq, hc, hs, this]
  unfold Oper.wp execOp
  simp only [ho, hx, hy, Instr.storeAt, Instr.sureAddr, Sem.run_bind, Sem.run_pure, Result.andThen_ok, hrun]
  refine hK _ _ (h _ ?_ (Of1.of_grown (grown_setCell w g i v)))
  rw [heap_setCell_own hg, List.setIfInBounds_toArray, hL]
/-- a row is stored into the middle of a block -/
theorem wl_put {ops : Array Oper} {rest : List Oper} {op : Oper} {a : Act} {w : World} {Q : Exit → Act → World → Prop} (hgd : op.guard = none) (ty : TypeId) (x y : Operand) (ho : op.op = .store ty x y)
    (b o : Nat) (cs : List Value) (hx : a.eval x = .pointer (some ⟨b, o, none⟩)) (hy : a.eval y = .agg cs.toArray) (C C' : Array Value) (t : TypeId) (hg : w.heap[b]? = some (.cells C t (0, 0))) (hle : o + cs.length ≤ C.size) (hi : (Tryd.prog.info? ty).map (·.size) = some cs.length) (h1 : ∀ v ∈ cs, v.oneCell' = true) (hC : setA C o cs = C')
    (h : ∀ U, U.heap[b]? = some (.cells C' t (0, 0)) → Of1 b w U → wpList Tryd.prog ops Q rest (a.put op.dst undef) U) : wpList Tryd.prog ops Q (op :: rest) a w := by
  have ht : w.there b o cs.toArray.size := fun j hj => by
    simp at hj
    refine ⟨?_, by simp [World.frozen?, hg]⟩
    rw [Lib.cell_of_heap hg, Array.getElem?_eq_getElem (by omega)]; rfl
  refine wpList_store_mid hgd ty x y ho b o cs.toArray hx hy ht (by simpa using hi) (all_oneCell_toArray h1) ?_
  refine h _ ?_ (Of1.of_grown (grown_setCells _ _ _ _))
  rw [heap_setCells _ hg, ← hC]
/-- two ranges in blocks of their own -/
structure F2 (W U : World) (b : Nat) (C0 C1 : List Value) : Prop where
  bl : Bl W U
  h0 : U.heap[b]? = some (.cells C0.toArray 26 (0, 0))
  h1 : U.heap[b + 1]? = some (.cells C1.toArray 26 (0, 0))
  le : W.heap.size ≤ b
theorem F2.step {W U V : World} {b : Nat} {C0 C1 : List Value} (h : F2 W U b C0 C1) (k : Bl U V) : F2 W V b C0 C1 := ⟨h.bl.step k, Bl.heap k h.h0, Bl.heap k h.h1, h.le⟩
theorem F2.put1 {W U V : World} {b : Nat} {C0 C1 C : List Value} (h : F2 W U b C0 C1) (k : Of1 (b + 1) U V) (hV : V.heap[b + 1]? = some (.cells C.toArray 26 (0, 0))) : F2 W V b C0 C :=
  ⟨k.bl h.bl (by have := h.le; omega), by rw [k.block b (lt_heap h.h0) (by omega)]; exact h.h0, hV, h.le⟩
theorem F2.put0 {W U V : World} {b : Nat} {C0 C1 C : List Value} (h : F2 W U b C0 C1) (k : Of1 b U V) (hV : V.heap[b]? = some (.cells C.toArray 26 (0, 0))) : F2 W V b C C1 :=
  ⟨k.bl h.bl h.le, hV, by rw [k.block (b + 1) (lt_heap h.h1) (by omega)]; exact h.h1, h.le⟩
theorem SL.bl {W U : World} {v : Value} {l : List HG.R} (h : SL W v l) (k : Bl W U) : SL U v l := by
  obtain ⟨a, c, e, h1, h2⟩ := h
  exact ⟨a, c, e, h1.bl k, h2⟩
theorem own_off {N k n b : Nat} {W V : World} {T : TypeId} {v : Value} {xs : List Value} (h : W.ownsRow N T k v n xs) (o : Of1 b W V) (hb : b < N) : V.ownsRow N T k v n xs := by
  obtain ⟨h0, h | ⟨g, cap, cur, h1, h2, h3, h4⟩⟩ := h
  · exact ⟨h0, Or.inl h⟩
  · exact ⟨h0, Or.inr ⟨g, cap, cur, h1, h2, by rw [o.block g (lt_heap h3) (by omega)]; exact h3, h4⟩⟩
namespace HG
def g0 (d p : Int) : G := ⟨d, p, 0, List.replicate 32 0, by simp⟩
def g1 (d p : Int) (n : Nat) : G := ⟨d, p, n, List.replicate 32 0, by simp⟩
/-- the range of a depth and a prefix, of records -/
def rng (d p : Int) (l : List R) : G := ⟨d, p, ((items (g0 d p) l).length : Nat), S.sha (M.rowB ((items (g0 d p) l).map tx)), S.sha_length _⟩
end HG
theorem build_g (d p : Int) : Tryd.prog.built 26 [(0, .int .i64 d), (1, .int .i64 p)] = some (fG (HG.g0 d p)).toArray := by kernel_rfl
def zRg : List Value := fG (HG.g0 0 0)
theorem zRgW (W : World) : (zeroValue 26).run Tryd.prog W = .ok (.agg zRg.toArray) W := by kernel_rfl
theorem zRg_sz : zRg.toArray.size = 35 := by simp [zRg, fG_len]
theorem rowT_le (l : List HG.R) : (M.rowB (l.map HG.tx)).length ≤ 9 + l.length * 82 := by
  have h1 := M.numB_len ((l.map HG.tx).length : Int)
  have h2 : (M.textsB (l.map HG.tx)).length ≤ l.length * 82 := by
    unfold M.textsB
    induction l with
    | nil => simp
    | cons r l ih =>
      have a1 := M.numB_len ((HG.tx r).length : Int)
      have a2 := M.numB_len r.c
      have a3 : (HG.tx r).length ≤ 73 := by unfold HG.tx; rw [List.length_append, List.length_append, r.hk, r.ho]; omega
      have a4 := ih (M.numB_len _)
      simp only [List.map_cons, List.flatten_cons, List.length_append, M.textB, List.length_cons] at a4 ⊢
      omega
  unfold M.rowB
  rw [List.length_append]; omega
attribute [local go_sem ↓] zRgW
theorem infoI1 : (Tryd.prog.info? 3).map (·.size) = some 1 := by kernel_rfl
set_option maxHeartbeats 4000000 in
set_option maxRecDepth 8000 in
theorem filled_x (d p : Int) (l : List HG.R) (v : Value) (W : World) (hG : GW W) (hv : SL W v l) (hl : l.length ≤ 1000) :
    Calls Tryd.prog 28 #[.int .i64 d, .int .i64 p, v] W fun e w' => e = .returned (.agg (fG (HG.rng d p l)).toArray) ∧ Bl W w' := by
  obtain ⟨n, hn⟩ : ∃ n, n = (HG.items (HG.g0 d p) l).length := ⟨_, rfl⟩
  have hn1 : n ≤ 1000 := by
    rw [hn]
    exact Nat.le_trans (HG.srt_len _) (Nat.le_trans (List.length_filter_le _ _) hl)
  have HGW : Hid (∀ U, Bl W U → GW U) := fun U h => hG.below h hG.z
  have HSL := hidI hv
  have C1 := hidI (fun v U h => Items_x (HG.g0 d p) l v U h hl)
  have C2 : Hid (∀ v U N, U.ownsRow N 48 65 v n (flG lyR (HG.items (HG.g0 d p) l)) → Calls Tryd.prog 45 #[v, .func (.func 46) #[] #[]] U fun e w' => ∃ v', e = .returned v' ∧ Strs w'.heap.size w' v' ((HG.items (HG.g0 d p) l).map HG.tx) ∧ Bl U w') := fun v U N h => by
    rw [hn] at h
    refine (each_x (HG.items (HG.g0 d p) l) v U (sl_own h) (by rw [← hn]; exact hn1)).mono ?_
    rintro e w' ⟨v', rfl, o, b⟩
    rw [flG_T] at o
    exact ⟨v', rfl, strs_of_owns o, b⟩
  have C3 : Hid (∀ v U, GW U → Strs U.heap.size U v ((HG.items (HG.g0 d p) l).map HG.tx) → Calls Tryd.prog 26 #[v] U fun e w' => e = .returned (.agg (dg (S.sha (M.rowB ((HG.items (HG.g0 d p) l).map HG.tx))))) ∧ Bl U w') := fun v U hU hs =>
    Row_at _ v U hU hs (by have := rowT_le (HG.items (HG.g0 d p) l); rw [← hn] at this; omega) (by rw [List.length_map, ← hn]; omega)
  rw [← hn] at C1
  have HN := hidI hn
  -- the three states of the range
  obtain ⟨L0, hL0⟩ : ∃ L0, L0 = fG (HG.g0 d p) := ⟨_, rfl⟩
  obtain ⟨L1, hL1⟩ : ∃ L1, L1 = fG (HG.g1 d p n) := ⟨_, rfl⟩
  obtain ⟨L2, hL2⟩ : ∃ L2, L2 = fG (HG.rng d p l) := ⟨_, rfl⟩
  obtain ⟨DL, hDL⟩ : ∃ DL, DL = (S.sha (M.rowB ((HG.items (HG.g0 d p) l).map HG.tx))).map vb := ⟨_, rfl⟩
  have hdl : DL.length = 32 := by rw [hDL, List.length_map, S.sha_length]
  have e01 : L0.set 2 (.int .i64 (n : Int)) = L1 := by rw [hL0, hL1]; rfl
  have e12 : setA L1.toArray 3 DL = L2.toArray := by
    apply Array.toList_inj.1
    rw [setA_list]
    have h1 : L1 = [Value.int .i64 d, Value.int .i64 p, Value.int .i64 (n : Int)] ++ ((List.replicate 32 (0 : UInt8)).map vb ++ []) := by rw [hL1]; simp [fG, HG.g1]
    have h2 : L2 = [Value.int .i64 d, Value.int .i64 p, Value.int .i64 (n : Int)] ++ DL := by rw [hL2, hDL, hn]; rfl
    rw [h1, h2]
    show setL ([Value.int .i64 d, Value.int .i64 p, Value.int .i64 (n : Int)] ++ _) ([Value.int .i64 d, Value.int .i64 p, Value.int .i64 (n : Int)].length + 0) DL = _
    rw [setL_app, setL_zero DL ((List.replicate 32 (0 : UInt8)).map vb) [] (by simp [hdl])]
    simp
  have b0 := build_g d p
  rw [← hL0] at b0 C1
  rw [← hL2]
  have l0 : L0.length = 35 := by rw [hL0]; exact fG_len _
  have l1 : L1.length = 35 := by rw [hL1]; exact fG_len _
  have l2 : L2.length = 35 := by rw [hL2]; exact fG_len _
  have o0 : ∀ u ∈ L0, u.oneCell' = true := by rw [hL0]; exact fG_one _
  have o2 : ∀ u ∈ L2, u.oneCell' = true := by rw [hL2]; exact fG_one _
  have od : ∀ u ∈ DL, u.oneCell' = true := by rw [hDL]; exact all_vb
  have edg : dg (S.sha (M.rowB ((HG.items (HG.g0 d p) l).map HG.tx))) = DL.toArray := by rw [hDL]; rfl
  rw [edg] at C3
  have E01 := hidI e01
  have E12 := hidI e12
  have HB0 := hidI b0
  have LL := hidI (And.intro l0 (And.intro l1 (And.intro l2 hdl)))
  have OO := hidI (And.intro o0 (And.intro o2 od))
  have I0 : Hid ((Tryd.prog.info? 26).map (·.size) = some L0.length) := by show _ = _; rw [l0]; exact infoRg
  have I2 : Hid ((Tryd.prog.info? 26).map (·.size) = some L2.length) := by show _ = _; rw [l2]; exact infoRg
  have ID : Hid ((Tryd.prog.info? 24).map (·.size) = some DL.length) := by show _ = _; rw [hdl]; exact info27
  have HF0 : Hid (F2 W ((W.alloc (.cells zRg.toArray 26)).alloc (.cells zRg.toArray 26)) W.heap.size zRg zRg) := by
    refine ⟨((Bl.refl W).alloc _).alloc _, ?_, ?_, Nat.le_refl _⟩
    · rw [Below.heap_alloc _ _ _ (by simp)]; exact heap_alloc_new _ _
    · have := heap_alloc_new (W.alloc (.cells zRg.toArray 26)) (.cells zRg.toArray 26)
      rwa [World.size_alloc] at this
  have hzs := zRg_sz
  have HZS := hidI hzs
  obtain ⟨gs, huG⟩ := undRg
  clear hG hv hn hL0 hL1 hL2 hDL hdl e01 e12 b0 l0 l1 l2 o0 o2 od edg hzs
  go_enter Tryd.func28, Tryd.ntmps28
  go_wp2_with (first
    | go_skip
    | (refine wl_build rfl 26 _ rfl [(0, .int .i64 d), (1, .int .i64 p)] (by simp only [List.map_toArray, List.map_cons, List.map_nil]; rfl) L0.toArray HB0.out ?_)
    | (refine wl_rowU rfl 26 _ _ rfl (W.heap.size + 1) L0 rfl rfl 26 zRg.toArray HF0.out.h1 35 infoRg LL.out.1 HZS.out OO.out.1 ?_; intro U1 hU1 hU2; have HF1 := hidI (HF0.out.put1 hU2 hU1); clear hU1 hU2 HF0)
    | (refine wl_midG (by rfl) 26 _ rfl (W.heap.size + 1) 0 rfl L0 _ (range_of HF1.out.h1) huG rfl I0.out ?_)
    | (go_at_call 15; refine (C1.out _ _ (HSL.out.bl HF1.out.bl)).mono ?_; clear C1; rintro e w2 ⟨v2, rfl, ow2, b2⟩; have HF2 := hidI (HF1.out.step b2); have hlt1 := hidI (lt_heap HF1.out.h1); clear HF1; obtain ⟨a2, c2, rfl, _⟩ := owns_rs lyR (ks := HG.items (HG.g0 d p) l) (by rw [← HN.out]; exact ow2); rw [← HN.out] at ow2 ⊢)
    | (refine wl_setU rfl 3 _ _ rfl (W.heap.size + 1) 2 (.int .i64 (n : Int)) rfl rfl rfl infoI1 L0 L1 26 HF2.out.h1 (by rw [LL.out.1]; decide) E01.out ?_; intro U3 hU1 hU2; have HF3 := hidI (HF2.out.put1 hU2 hU1); have ow3 := hidI (own_off ow2 hU2 hlt1.out); clear hU1 hU2 ow2 HF2)
    | (go_at_call 45; refine (C2.out _ _ _ ow3.out).mono ?_; clear C2 ow3; rintro e w4 ⟨v4, rfl, s4, b4⟩; have HF4 := hidI (HF3.out.step b4); clear HF3)
    | (go_at_call 26; refine (C3.out _ _ (HGW.out _ HF4.out.bl) s4).mono ?_; clear C3 s4; rintro e w5 ⟨rfl, b5⟩; have HF5 := hidI (HF4.out.step b5); clear HF4)
    | (refine wl_put rfl 24 _ _ rfl (W.heap.size + 1) 3 DL rfl rfl L1.toArray L2.toArray 26 HF5.out.h1 (by rw [LL.out.2.2.2]; simp [LL.out.2.1]) ID.out OO.out.2.2 E12.out ?_; intro U6 hU1 hU2; have HF6 := hidI (HF5.out.put1 hU2 hU1); clear hU1 hU2 HF5)
    | (refine wl_midG (by rfl) 26 _ rfl (W.heap.size + 1) 0 rfl L2 _ (range_of HF6.out.h1) huG rfl I2.out ?_)
    | (refine wl_rowU rfl 26 _ _ rfl W.heap.size L2 rfl rfl 26 zRg.toArray HF6.out.h0 35 infoRg LL.out.2.2.1 HZS.out OO.out.2.1 ?_; intro U7 hU1 hU2; have HF7 := hidI (HF6.out.put0 hU2 hU1); clear hU1 hU2 HF6))
  (try simp only [Exit.inBlock, Exit.then])
  first
    | refine bodyPost_ret (results_cell_row rfl _ _ W.heap.size 26 _ (0, 0) _ rfl HF7.out.h0 huG rfl (by rw [show L2.toArray.size = L2.length by simp]; exact I2.out)) rfl ?_
    | refine bodyPost_end (results_cell_row rfl _ _ W.heap.size 26 _ (0, 0) _ rfl HF7.out.h0 huG rfl (by rw [show L2.toArray.size = L2.length by simp]; exact I2.out)) rfl ?_
  exact ⟨rfl, HF7.out.bl⟩
end Go.Proofs.YtfbjakhanjbaeaaDoor

/- hedge.Of, Parts. -/
namespace Go.Proofs.YtfbjakhanjbaeaaDoor
open Go.RowKit Go.Maps Go.Sort Go.Shelf Go.Lib
set_option linter.unusedVariables false
set_option linter.unusedSimpArgs false

theorem results2_row {P : Program} {fn : Func} {p q : Tmp} {ty : TypeId} (h : fn.results = #[.cell p ty, .tmp q]) (tmps : Array Value) (w : World) (g : Nat) (t : TypeId) (cs : Array Value) (fr : Nat × Nat) (d : TypeDesc)
    (hp : tmps.getD p undef = .pointer (some ⟨g, 0, none⟩)) (hg : w.heap[g]? = some (.cells cs t fr))
    (hu : P.underlying ty = some d) (hd : (match d with | .struct _ | .array _ _ => true | _ => false) = true) (hi : (P.info? ty).map (·.size) = some cs.size) :
    (results fn tmps).run P w = .ok (.tuple #[.agg cs, tmps.getD q undef]) w := by
  have hp' : tmps[p]?.getD undef = .pointer (some ⟨g, 0, none⟩) := by simpa using hp
  simp [results, h, hp', asAddr, run_loadVar_row w g t ty cs fr d hg hu hd hi]

namespace HG
/-- Of's range and its error -/
def ofG (d p : Int) (l : List R) : G := if pl d p = true then rng d p l else g0 0 0
def ofE (d p : Int) : Int := if pl d p = true then 0 else 1
/-- Parts' ranges and its error -/
def canP (r : G) : Bool := good r && !(r.d == 8)
def part (r : G) (l : List R) (i : Nat) : G := rng (r.d + 1) (r.p * 4 + i) l
def parts (r : G) (l : List R) : List G := if canP r = true then (List.range 4).map (part r l) else []
def parE (r : G) : Int := if canP r = true then 0 else 1
end HG
theorem build_0 : Tryd.prog.built 26 [] = some zRg.toArray := by kernel_rfl
attribute [local go_sem ↓] zRgW
set_option maxHeartbeats 2000000 in
set_option maxRecDepth 8000 in
theorem Of_x (d p : Int) (l : List HG.R) (v : Value) (W : World) (hG : GW W) (hv : SL W v l) (hl : l.length ≤ 1000) :
    Calls Tryd.prog 9 #[.int .i64 d, .int .i64 p, v] W fun e w' => e = .returned (.tuple #[.agg (fG (HG.ofG d p l)).toArray, .int .i64 (HG.ofE d p)]) ∧ Bl W w' := by
  have HB := hidI ((Bl.refl W).alloc (.cells zRg.toArray 26))
  have HZ : Hid ((W.alloc (.cells zRg.toArray 26)).heap[W.heap.size]? = some (.cells zRg.toArray 26 (0, 0))) := heap_alloc_new _ _
  have CP := hidI (fun U => isPlace_x d p U)
  have CF := hidI (fun U (h : Bl W U) => filled_x d p l v U (hG.below h hG.z) (hv.bl h) hl)
  have hzs := zRg_sz
  have HZS := hidI hzs
  have HZL : Hid (zRg.length = 35) := fG_len _
  have HZO : Hid (∀ u ∈ zRg, u.oneCell' = true) := fG_one _
  have HB0 := hidI build_0
  obtain ⟨gs, huG⟩ := undRg
  have HL : Hid ((fG (HG.rng d p l)).length = 35 ∧ ∀ u ∈ fG (HG.rng d p l), u.oneCell' = true) := ⟨fG_len _, fG_one _⟩
  unfold HG.ofG HG.ofE
  obtain ⟨q, hq⟩ : ∃ q, q = HG.pl d p := ⟨_, rfl⟩
  rw [← hq] at CP ⊢
  clear hG hv hzs hq
  cases q with
  | false =>
    show Calls _ _ _ _ fun e w' => e = .returned (.tuple #[.agg zRg.toArray, .int .i64 1]) ∧ Bl W w'
    go_enter Tryd.func9, Tryd.ntmps9
    go_wp2_with (first
      | go_skip
      | (go_at_call 27; refine (CP.out _).mono ?_; rintro e w1 ⟨rfl, hw⟩; subst hw)
      | (refine wl_build rfl 26 _ rfl [] (by first | rfl | simp) zRg.toArray HB0.out ?_)
      | (refine wl_rowU rfl 26 _ _ rfl W.heap.size zRg rfl rfl 26 zRg.toArray HZ.out 35 infoRg HZL.out HZS.out HZO.out ?_; intro U7 hU1 hU2; have HF7 := hidI (And.intro hU1 (hU2.bl HB.out (Nat.le_refl _))); clear hU1 hU2))
    first
      | refine bodyPost_ret (results2_row rfl _ _ W.heap.size 26 _ (0, 0) _ rfl HF7.out.1 huG rfl (by rw [HZS.out]; exact infoRg)) rfl ?_
      | refine bodyPost_end (results2_row rfl _ _ W.heap.size 26 _ (0, 0) _ rfl HF7.out.1 huG rfl (by rw [HZS.out]; exact infoRg)) rfl ?_
    exact ⟨rfl, HF7.out.2⟩
  | true =>
    show Calls _ _ _ _ fun e w' => e = .returned (.tuple #[.agg (fG (HG.rng d p l)).toArray, .int .i64 0]) ∧ Bl W w'
    generalize fG (HG.rng d p l) = L at *
    go_enter Tryd.func9, Tryd.ntmps9
    go_wp2_with (first
      | go_skip
      | (go_at_call 27; refine (CP.out _).mono ?_; rintro e w1 ⟨rfl, hw⟩; subst hw)
      | (go_at_call 28; refine (CF.out _ HB.out).mono ?_; clear CF; rintro e w2 ⟨rfl, b2⟩)
      | (refine wl_rowU rfl 26 _ _ rfl W.heap.size L rfl rfl 26 zRg.toArray (Bl.heap b2 HZ.out) 35 infoRg HL.out.1 HZS.out HL.out.2 ?_; intro U7 hU1 hU2; have HF7 := hidI (And.intro hU1 (hU2.bl (HB.out.step b2) (Nat.le_refl _))); clear hU1 hU2))
    first
      | refine bodyPost_ret (results2_row rfl _ _ W.heap.size 26 _ (0, 0) _ rfl HF7.out.1 huG rfl (by rw [show L.toArray.size = L.length by simp, HL.out.1]; exact infoRg)) rfl ?_
      | refine bodyPost_end (results2_row rfl _ _ W.heap.size 26 _ (0, 0) _ rfl HF7.out.1 huG rfl (by rw [show L.toArray.size = L.length by simp, HL.out.1]; exact infoRg)) rfl ?_
    exact ⟨rfl, HF7.out.2⟩

theorem infoRg3 : (Tryd.prog.info? 26).map (fun i => (i.zero, i.size, i.bytes)) = some (some (.agg zRg.toArray), 35, 56) := by kernel_rfl
theorem undGs : Tryd.prog.underlying 32 = some (.slice 26) := Tryd.underlying32
theorem zRg_size : (Value.agg zRg.toArray).cells.size = 35 := by simp [Value.cells, zRg, fG_len]
set_option maxHeartbeats 4000000 in
set_option maxRecDepth 8000 in
theorem Parts_x (r : HG.G) (l : List HG.R) (v : Value) (W : World) (hG : GW W) (hv : SL W v l) (hl : l.length ≤ 1000) :
    Calls Tryd.prog 11 #[.agg (fG r).toArray, v] W fun e w' => ∃ v', e = .returned (.tuple #[v', .int .i64 (HG.parE r)]) ∧ w'.ownsRow W.heap.size 26 35 v' (HG.parts r l).length (flG lyG (HG.parts r l)) ∧ Bl W w' := by
  have hb0 : (W.alloc (.cells (fG r).toArray 26)).heap[W.heap.size]? = some (.cells (fG r).toArray 26 (0, 0)) := heap_alloc_new _ _
  have HB := hidI ((Bl.refl W).alloc (.cells (fG r).toArray 26))
  have HX : Hid (∀ U, Bl (W.alloc (.cells (fG r).toArray 26)) U → U.heap[W.heap.size]? = some (.cells (fG r).toArray 26 (0, 0)) ∧ U.cell? ⟨W.heap.size, 0, none⟩ = some (.int .i64 r.d) ∧ U.cell? ⟨W.heap.size, 1, none⟩ = some (.int .i64 r.p)) := fun U h => by
    have h1 := Bl.heap h hb0
    exact ⟨h1, cell_of_row _ _ 0 _ _ _ h1, cell_of_row _ _ 1 _ _ _ h1⟩
  have CG := hidI (fun U => Good_gn r U)
  have CF := hidI (fun i U (h : Bl W U) => filled_x (r.d + 1) (r.p * 4 + (i : Nat)) l v U (hG.below h hG.z) (hv.bl h) hl)
  have hsz : (fG r).toArray.size = 35 := by simp [fG_len]
  have HI := hidI (one_infoG r)
  obtain ⟨gs, huG⟩ := undRg
  have HGP : Hid (HG.good r = true → 0 ≤ r.d ∧ r.d ≤ 8 ∧ 0 ≤ r.p ∧ r.p ≤ 65536) := fun h => by
    unfold HG.good HG.pl at h
    rw [Bool.and_eq_true] at h
    have h2 := of_decide_eq_true h.1
    obtain ⟨a1, a2, a3, a4⟩ := h2
    refine ⟨a1, a2, a3, ?_⟩
    have : (4 : Int) ^ r.d.toNat ≤ 4 ^ 8 := by
      have hh : (4 : Nat) ^ r.d.toNat ≤ 4 ^ 8 := Nat.pow_le_pow_right (by decide) (by omega)
      exact_mod_cast hh
    have e : (4 : Int) ^ 8 = 65536 := by decide
    omega
  have HL : Hid (∀ i, (fG (HG.part r l i)).length = 35 ∧ (∀ u ∈ fG (HG.part r l i), u.oneCell' = true)) := fun i => ⟨fG_len _, fG_one _⟩
  have HPT : Hid (∀ i, HG.rng (r.d + 1) (r.p * 4 + (i : Nat)) l = HG.part r l i) := fun i => rfl
  obtain ⟨pt, hpt⟩ : ∃ pt : Nat → HG.G, pt = HG.part r l := ⟨_, rfl⟩
  have HPE : Hid (∀ g e8, HG.good r = g → (r.d == 8) = e8 → HG.parE r = (if (g && !e8) = true then 0 else 1) ∧ HG.parts r l = (if (g && !e8) = true then (List.range 4).map pt else [])) := fun g e8 h1 h2 => by
    subst h1; subst h2; rw [hpt]; exact ⟨rfl, rfl⟩
  rw [← hpt] at HL HPT
  simp only [HPT.out] at CF
  obtain ⟨g, hg⟩ : ∃ g, HG.good r = g := ⟨_, rfl⟩
  obtain ⟨e8, he8⟩ : ∃ e8, (r.d == 8) = e8 := ⟨_, rfl⟩
  obtain ⟨x1, x2⟩ := HPE.out g e8 hg he8
  rw [hg] at CG HGP
  rw [x1, x2]
  have HE8 := hidI he8
  clear hb0 hG hv hg x1 x2 HPE HPT hpt
  generalize fG r = F at *
  generalize r.d = d at *
  generalize r.p = p at *
  cases g with
  | false =>
    show Calls _ _ _ _ fun e w' => ∃ v', e = .returned (.tuple #[v', .int .i64 1]) ∧ w'.ownsRow W.heap.size 26 35 v' ([] : List HG.G).length (flG lyG []) ∧ Bl W w'
    go_enter Tryd.func11, Tryd.ntmps11
    go_wp2_with (first
      | go_skip
      | (refine wl_midG (by rfl) 26 _ rfl W.heap.size 0 rfl F _ (range_of (HX.out _ (Bl.refl _)).1) huG rfl HI.out ?_)
      | (go_at_call 19; refine (CG.out _).mono ?_; rintro e w1 ⟨rfl, g1⟩))
    go_ret2
    exact ⟨_, rfl, ⟨rfl, Or.inl ⟨rfl, rfl⟩⟩, HB.out.step (gn_bl g1)⟩
  | true =>
    obtain ⟨a1, a2, a3, a4⟩ := HGP.out rfl
    cases e8 with
    | true =>
      show Calls _ _ _ _ fun e w' => ∃ v', e = .returned (.tuple #[v', .int .i64 1]) ∧ w'.ownsRow W.heap.size 26 35 v' ([] : List HG.G).length (flG lyG []) ∧ Bl W w'
      go_enter Tryd.func11, Tryd.ntmps11
      go_wp2_with (first
        | go_skip
        | (refine wl_midG (by rfl) 26 _ rfl W.heap.size 0 rfl F _ (range_of (HX.out _ (Bl.refl _)).1) huG rfl HI.out ?_)
        | (go_at_call 19; refine (CG.out _).mono ?_; rintro e w1 ⟨rfl, g1⟩; obtain ⟨y1, y2, y3⟩ := HX.out _ (gn_bl g1)))
      go_ret2
      exact ⟨_, rfl, ⟨rfl, Or.inl ⟨rfl, rfl⟩⟩, HB.out.step (gn_bl g1)⟩
    | false =>
      show Calls _ _ _ _ fun e w' => ∃ v', e = .returned (.tuple #[v', .int .i64 0]) ∧ w'.ownsRow W.heap.size 26 35 v' ((List.range 4).map pt).length (flG lyG ((List.range 4).map pt)) ∧ Bl W w'
      have a5 : d < 8 := by have := HE8.out; simp at this; omega
      go_enter Tryd.func11, Tryd.ntmps11
      go_wp2_with (first
        | go_skip
        | (refine wl_midG (by rfl) 26 _ rfl W.heap.size 0 rfl F _ (range_of (HX.out _ (Bl.refl _)).1) huG rfl HI.out ?_)
        | (go_at_call 19; refine (CG.out _).mono ?_; rintro e w1 ⟨rfl, g1⟩; have HG1 := hidI (gn_bl g1); clear g1; obtain ⟨y1, y2, y3⟩ := HX.out _ HG1.out; clear y1))
      go_loopw [6, 7, 16] (fun u6 _ u16 wr => ∃ i : Nat, i ≤ 4 ∧ u16 = .int .i64 i ∧ wr.ownsRow (W.alloc (.cells F.toArray 26)).heap.size 26 35 u6 ((List.range i).map pt).length (flG lyG ((List.range i).map pt)) ∧ Bl (W.alloc (.cells F.toArray 26)) wr) (fun _ _ u16 _ => 4 - (intOf u16).toNat)
      case atStart => exact ⟨0, by omega, rfl, ⟨rfl, Or.inl ⟨rfl, rfl⟩⟩, HG1.out⟩
      case round =>
        obtain ⟨i, hi4, rfl, ho, hb⟩ := hrel
        have HO := hidI ho
        have HBR := hidI hb
        clear ho hb y2 y3 HG1
        obtain ⟨y1, y2, y3⟩ := HX.out _ HBR.out
        by_cases hlt : i < 4
        · have hltz : (i : Int) < 4 := by omega
          have HT : Hid ((List.range (i + 1)).map pt = (List.range i).map pt ++ [pt i]) := by show _ = _; rw [List.range_succ]; simp
          obtain ⟨LX, hLX⟩ : ∃ LX, LX = (List.range i).map pt := ⟨_, rfl⟩
          have hll : LX.length = i := by rw [hLX]; simp
          rw [← hLX] at HO HT
          have HBW := hidI (HB.out.step HBR.out)
          have C2 := hidI (CF.out i wr HBW.out)
          have HL1 := hidI (HL.out i)
          have HL2 : Hid (∀ L ∈ [fG (pt i)], L.length = 35) := fun L hL => by simp at hL; rw [hL]; exact HL1.out.1
          have HFG : Hid (fG (pt i) = lyG.f (pt i)) := rfl
          clear hLX
          generalize fG (pt i) = K at *
          go_wp2_with (first
            | go_skip
            | (go_at_call 28; refine C2.out.mono ?_; clear C2; rintro e w2 ⟨rfl, b2⟩; have HBX := hidI (HBR.out.step b2); have HOX := hidI (ownsRow_bl HO.out b2))
            | (refine wl_bs (by rfl) 32 26 1 _ rfl [K] (by simp only [List.map_toArray, List.map_cons, List.map_nil]; rfl) rfl 35 HL2.out K (by simp) 56 _ undGs infoRg3 (by decide) (by decide) (by decide) (by decide) ?_)
            | (refine wl_app1M lyG 26 32 _ 56 undGs infoRg3 zRg_size (by decide) rfl _ _ rfl LX.length LX rfl (pt i) u6 rfl HBX.out HOX.out w2.heap.size rfl rfl (by omega) ?_ K.toArray (by rw [HFG.out]) rfl; intro a' c' w3 g1 g2 g3))
          go_roundw
          case rel => exact ⟨i + 1, by omega, by go_num, by rw [HT.out, List.length_append, List.length_singleton, hll]; have g5 := g1; rw [hll] at g5; exact g5, g2⟩
          case measure => simp [intOf]; omega
        · obtain rfl : i = 4 := by omega
          go_wp2_with fail
          go_ret2
          exact ⟨_, rfl, own_less HO.out (by simp), HB.out.step HBR.out⟩
end Go.Proofs.YtfbjakhanjbaeaaDoor
