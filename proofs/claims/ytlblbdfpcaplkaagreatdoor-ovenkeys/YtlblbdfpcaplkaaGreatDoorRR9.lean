/- The reference's Record. -/
import Derived.Test.YtlblbdfpcaplkaaGreatDoorX3
import Derived.Test.YtlblbdfpcaplkaaGreatDoorO10
namespace Go.Proofs.YtlblbdfpcaplkaaGreatDoor
open Go.RowKit
set_option linter.unusedVariables false
set_option linter.unusedSimpArgs false
attribute [local go_sem ↓] zero27 zero35

theorem heap_setCell_row9 {w : World} {b i : Nat} {C : Array Value} {t : TypeId} {fr : Nat × Nat} {v : Value} (h : w.heap[b]? = some (.cells C t fr)) : (w.setCell ⟨b, i, none⟩ v).heap[b]? = some (.cells (C.setIfInBounds i v) t fr) := by
  show (w.heap.modify b _)[b]? = _
  rw [Array.getElem?_modify, if_pos rfl, h]; rfl
theorem heap_sets9 {b : Nat} {t : TypeId} : ∀ (vs : List Value) (o : Nat) (w : World) (C : Array Value), w.heap[b]? = some (.cells C t (0, 0)) → ∃ C' : Array Value, (w.setCells b o vs).heap[b]? = some (.cells C' t (0, 0)) ∧ C'.size = C.size ∧ ∀ j, C'[j]? = if o ≤ j ∧ j < o + vs.length ∧ j < C.size then vs[j - o]? else C[j]?
  | [], o, w, C, h => ⟨C, h, rfl, fun j => by rw [if_neg (by simp; omega)]⟩
  | v :: vs, o, w, C, h => by
    have h1 := heap_setCell_row9 (i := o) (v := v) h
    obtain ⟨C', h2, h3, h4⟩ := heap_sets9 vs (o + 1) (w.setCell ⟨b, o, none⟩ v) (C.setIfInBounds o v) h1
    refine ⟨C', h2, by rw [h3]; simp, fun j => ?_⟩
    rw [h4 j]
    simp only [Array.size_setIfInBounds, List.length_cons]
    by_cases c1 : o + 1 ≤ j ∧ j < o + 1 + vs.length ∧ j < C.size
    · rw [if_pos c1, if_pos (by omega)]
      rw [show j - o = (j - (o + 1)) + 1 by omega, List.getElem?_cons_succ]
    · rw [if_neg c1, Array.getElem?_setIfInBounds]
      by_cases c2 : o = j
      · subst c2
        by_cases c3 : o < C.size
        · rw [if_pos rfl, if_pos c3, if_pos (by omega)]; simp
        · rw [if_pos rfl, if_neg c3, if_neg (by omega), Array.getElem?_eq_none (by omega)]
      · rw [if_neg c2, if_neg (by omega)]
theorem heap_sets_list9 {b : Nat} {t : TypeId} (w : World) (a m z vs : List Value) (o : Nat) (h : w.heap[b]? = some (.cells (a ++ (m ++ z)).toArray t (0, 0))) (ho : a.length = o) (hm : vs.length = m.length) : (w.setCells b o vs).heap[b]? = some (.cells (a ++ (vs ++ z)).toArray t (0, 0)) := by
  obtain ⟨C', h1, h2, h3⟩ := heap_sets9 vs o w _ h
  rw [h1]
  congr 2
  apply Array.ext_getElem?
  intro j
  rw [h3 j, List.getElem?_toArray, List.getElem?_toArray]
  simp only [List.size_toArray, List.length_append]
  by_cases c1 : j < a.length
  · rw [if_neg (by omega), List.getElem?_append_left c1, List.getElem?_append_left c1]
  · have hr : (a ++ (vs ++ z))[j]? = (vs ++ z)[j - a.length]? := List.getElem?_append_right (by omega)
    have hl : (a ++ (m ++ z))[j]? = (m ++ z)[j - a.length]? := List.getElem?_append_right (by omega)
    rw [hr]
    by_cases c2 : j - a.length < vs.length
    · rw [if_pos (by omega), List.getElem?_append_left c2, ho]
    · rw [if_neg (by omega), hl, List.getElem?_append_right (by omega), List.getElem?_append_right (by omega), hm]
theorem heap_sets_other9 {b k : Nat} (h : k ≠ b) : ∀ (vs : List Value) (o : Nat) (w : World), (w.setCells b o vs).heap[k]? = w.heap[k]?
  | [], o, w => rfl
  | v :: vs, o, w => by
    rw [World.setCells, heap_sets_other9 h vs, Below.heap_setCell _ _ _ _ h]
theorem bs_eq8 (a b : List UInt8) : ((M.bs a).toList == (M.bs b).toList) = decide (a = b) := by
  rw [Lib.toList_data, Lib.toList_data, M.bs_toList, M.bs_toList]
  by_cases h : a = b
  · subst h; simp
  · simp [h]
theorem eqRe9 (c c' : Int) (t t' : List UInt8) (W : World) : (Op.equalIn 10000 46 (.agg #[.int .i64 c, .string (M.bs t)]) (.agg #[.int .i64 c', .string (M.bs t')])).run Tryz.prog W = .ok (decide (c = c' ∧ t = t')) W := by
  have hS : Tryz.prog.underlying 46 = some (.struct (Tryz.prog.fieldsOf 46)) := by kernel_rfl
  have hp : Tryz.prog.stoodInHeld 46 = false := by kernel_rfl
  rw [show (10000 : Nat) = 9998 + 1 + 1 from rfl, run_equalIn_struct W (9998 + 1) 46 _ _ hS hp]
  simp only [Program.fieldsOf, Tryz.underlying46, Op.eqFields]
  have p1 := fun (c : Int) (t : List UInt8) W => part_one (t := 30) Tryz.isAgg30 #[.int .i64 c, .string (M.bs t)] 0 (.int .i64 c) rfl W
  have p2 := fun (c : Int) (t : List UInt8) W => part_one (t := 9) Tryz.isAgg9 #[.int .i64 c, .string (M.bs t)] 1 (.string (M.bs t)) rfl W
  have h1 : ∀ W, (Op.equalIn (9998 + 1) 30 (.int .i64 c) (.int .i64 c')).run Tryz.prog W = .ok (c == c') W := fun W => run_equalIn_int W 9998 30 .i64 .i64 c c' Tryz.underlying30
  have h2 : ∀ W, (Op.equalIn (9998 + 1) 9 (.string (M.bs t)) (.string (M.bs t'))).run Tryz.prog W = .ok ((M.bs t).toList == (M.bs t').toList) W := fun W => run_equalIn_string W 9998 9 _ _ Tryz.underlying9
  have hk := bs_eq8 t t'
  by_cases e1 : c = c'
  · subst e1
    by_cases e2 : t = t'
    · subst e2; simp [p1, p2, h1, h2]
    · have hk' : ((M.bs t).toList == (M.bs t').toList) = false := by rw [hk]; simp [e2]
      simp [p1, p2, h1, h2, hk', e2]
  · have e1' : (c == c') = false := by simpa using e1
    simp [p1, h1, e1', e1]
theorem Bl.sets {w : World} {b : Nat} (hb : w.heap.size ≤ b) : ∀ (vs : List Value) (o : Nat) (W : World), Bl w W → Bl w (W.setCells b o vs)
  | [], o, W, h => h
  | v :: vs, o, W, h => by
    rw [World.setCells]
    exact Bl.sets hb vs (o + 1) _ (h.set hb o v)
theorem wl_mid8 {P : Program} {ops : Array Oper} {rest : List Oper} {o : Oper} {a : Act} {w : World} {Q : Exit → Act → World → Prop} (hw : Region.wanted o (yielded ops a.tmps) = true) (ty : TypeId) (x : Operand) (ho : o.op = .load ty x)
    (b q : Nat) (hx : a.eval x = .pointer (some ⟨b, q, none⟩)) (cs : List Value) (d : TypeDesc) (hc : w.rangeAt b q cs)
    (hu : P.underlying ty = some d) (hd : d.isRow = true) (hi : (P.info? ty).map (·.size) = some cs.length)
    (h : wpList P ops Q rest (a.put o.dst (.agg cs.toArray)) w) : wpList P ops Q (o :: rest) a w :=
  wpList_step fun _ hK => by rw [if_pos hw]; exact wp_load_mid ty x ho b q hx cs d hc hu hd hi (hK _ _ h)
theorem wl_stmid {P : Program} {ops : Array Oper} {rest : List Oper} {o : Oper} {a : Act} {w : World} {Q : Exit → Act → World → Prop} (hgd : o.guard = none) (ty : TypeId) (x y : Operand) (ho : o.op = .store ty x y)
    (b q : Nat) (cells : Array Value) (hx : a.eval x = .pointer (some ⟨b, q, none⟩)) (hy : a.eval y = .agg cells)
    (ht : w.there b q cells.size) (hi : (P.info? ty).map (·.size) = some cells.size) (h1 : cells.all (·.oneCell') = true)
    (h : wpList P ops Q rest (a.put o.dst undef) (w.setCells b q cells.toList)) : wpList P ops Q (o :: rest) a w :=
  wpList_plain hgd fun _ hK => wp_store_mid ty x y ho b q cells hx hy ht hi h1 (hK _ _ h)
set_option maxRecDepth 8000 in
set_option maxHeartbeats 4000000 in
theorem rRecord_x (k : List UInt8) (r : O.Re) (W : World) (hk : k.length = 32) (hr : ReOk r) :
    Calls Tryz.prog 22 #[.agg (dg k), .agg (resV r)] W fun e w' => e = .returned (.agg (rv (recO k r))) ∧ Bl W w' := by
  have hzl := rv_size zr32
  have hi : (Tryz.prog.info? 42).map (·.size) = some (k.map vb).length := by rw [List.length_map, hk]; exact info27
  obtain ⟨fs, hum⟩ := und35
  obtain ⟨c, t⟩ := r
  unfold resV
  simp only
  have hX32 : Rc32 ⟨k, c, Go.Proofs.YtlblbdfpcaplkaaGreatDoor.V.zd⟩ := ⟨hk, zd_length, hr.c1, hr.c2⟩
  have hxl := rv_size hX32
  have hBD : ∀ U, (Instr.build 44 #[(0, .agg (k.map vb).toArray), (1, .int .i64 c)]).run Tryz.prog U = .ok (.agg (rv ⟨k, c, Go.Proofs.YtlblbdfpcaplkaaGreatDoor.V.zd⟩)) U := fun U => build35c k c hk U
  have HWZ : Hid (Bl W ((((W.alloc (.cells (dg k) 42)).alloc (.cells #[.int .i64 c, .string (M.bs t)] 46)).alloc (.cells (rv Go.Proofs.YtlblbdfpcaplkaaGreatDoor.V.zr) 44)).alloc (.cells (rv ⟨k, c, Go.Proofs.YtlblbdfpcaplkaaGreatDoor.V.zd⟩) 44))) := ((((Bl.refl W).alloc _).alloc _).alloc _).alloc _
  have HFA : Hid (∀ U, Bl (((W.alloc (.cells (dg k) 42)).alloc (.cells #[.int .i64 c, .string (M.bs t)] 46)).alloc (.cells (rv Go.Proofs.YtlblbdfpcaplkaaGreatDoor.V.zr) 44)) U → U.rangeAt W.heap.size 0 (k.map vb) ∧ U.cell? ⟨W.heap.size + 1, 0, none⟩ = some (.int .i64 c) ∧ U.cell? ⟨W.heap.size + 1, 1, none⟩ = some (.string (M.bs t)) ∧ U.heap[W.heap.size + 1 + 1]? = some (.cells (rv Go.Proofs.YtlblbdfpcaplkaaGreatDoor.V.zr) 44)) := fun U hU => by
    have s1 : (W.alloc (.cells (dg k) 42)).heap.size = W.heap.size + 1 := by simp
    have s2 : ((W.alloc (.cells (dg k) 42)).alloc (.cells #[.int .i64 c, .string (M.bs t)] 46)).heap.size = W.heap.size + 1 + 1 := by simp
    have b2 := heap_alloc_new ((W.alloc (.cells (dg k) 42)).alloc (.cells #[.int .i64 c, .string (M.bs t)] 46)) (.cells (rv Go.Proofs.YtlblbdfpcaplkaaGreatDoor.V.zr) 44)
    have b1 := heap_alloc_new (W.alloc (.cells (dg k) 42)) (.cells #[.int .i64 c, .string (M.bs t)] 46)
    have b0 := heap_alloc_new W (.cells (dg k) 42)
    rw [s2] at b2
    rw [s1] at b1
    have u2 := Below.block hU _ (TA.lt_heap b2)
    have u1 := Below.block (((Bl.refl ((W.alloc (.cells (dg k) 42)).alloc (.cells #[.int .i64 c, .string (M.bs t)] 46))).alloc _).step hU) _ (TA.lt_heap b1)
    have u0 := Below.block ((((Bl.refl (W.alloc (.cells (dg k) 42))).alloc _).alloc _).step hU) _ (TA.lt_heap b0)
    rw [b2] at u2
    rw [b1] at u1
    rw [b0] at u0
    exact ⟨range_part u0 [] (k.map vb) [] 0 (by simp [dg]) rfl, by rw [Lib.cell_of_heap u1]; rfl, by rw [Lib.cell_of_heap u1]; rfl, u2⟩
  have HZ3 : Hid (∀ V : World, (V.alloc (.cells (rv Go.Proofs.YtlblbdfpcaplkaaGreatDoor.V.zr) 44)).heap[V.heap.size]? = some (.cells (rv Go.Proofs.YtlblbdfpcaplkaaGreatDoor.V.zr) 44 (0, 0))) := fun V => heap_alloc_new _ _
  have HS3 : Hid ((((W.alloc (.cells (dg k) 42)).alloc (.cells #[.int .i64 c, .string (M.bs t)] 46)).alloc (.cells (rv Go.Proofs.YtlblbdfpcaplkaaGreatDoor.V.zr) 44)).heap.size = W.heap.size + 1 + 1 + 1) := by show _ = _; simp
  have HX3 : Hid (∀ U, Bl ((((W.alloc (.cells (dg k) 42)).alloc (.cells #[.int .i64 c, .string (M.bs t)] 46)).alloc (.cells (rv Go.Proofs.YtlblbdfpcaplkaaGreatDoor.V.zr) 44)).alloc (.cells (rv ⟨k, c, Go.Proofs.YtlblbdfpcaplkaaGreatDoor.V.zd⟩) 44)) U → U.heap[W.heap.size + 1 + 1 + 1]? = some (.cells (rv ⟨k, c, Go.Proofs.YtlblbdfpcaplkaaGreatDoor.V.zd⟩) 44 (0, 0))) := fun U hU => by
    have b3 := heap_alloc_new (((W.alloc (.cells (dg k) 42)).alloc (.cells #[.int .i64 c, .string (M.bs t)] 46)).alloc (.cells (rv Go.Proofs.YtlblbdfpcaplkaaGreatDoor.V.zr) 44)) (.cells (rv ⟨k, c, Go.Proofs.YtlblbdfpcaplkaaGreatDoor.V.zd⟩) 44)
    rw [HS3.out] at b3
    have u3 := Below.block hU _ (TA.lt_heap b3)
    rw [b3] at u3
    exact u3
  have HB4 : Hid (Bl (((W.alloc (.cells (dg k) 42)).alloc (.cells #[.int .i64 c, .string (M.bs t)] 46)).alloc (.cells (rv Go.Proofs.YtlblbdfpcaplkaaGreatDoor.V.zr) 44)) ((((W.alloc (.cells (dg k) 42)).alloc (.cells #[.int .i64 c, .string (M.bs t)] 46)).alloc (.cells (rv Go.Proofs.YtlblbdfpcaplkaaGreatDoor.V.zr) 44)).alloc (.cells (rv ⟨k, c, Go.Proofs.YtlblbdfpcaplkaaGreatDoor.V.zd⟩) 44))) := (Bl.refl _).alloc _
  have HZW : Hid (Bl W (((W.alloc (.cells (dg k) 42)).alloc (.cells #[.int .i64 c, .string (M.bs t)] 46)).alloc (.cells (rv Go.Proofs.YtlblbdfpcaplkaaGreatDoor.V.zr) 44))) := (((Bl.refl W).alloc _).alloc _).alloc _
  obtain ⟨f0, f1, f2, _⟩ := HFA.out (((W.alloc (.cells (dg k) 42)).alloc (.cells #[.int .i64 c, .string (M.bs t)] 46)).alloc (.cells (rv Go.Proofs.YtlblbdfpcaplkaaGreatDoor.V.zr) 44)) (Bl.refl _)
  have F0 : Hid _ := f0
  clear f0
  by_cases h0 : c = 0
  · subst h0
    have e : recO k (0, t) = ⟨k, 0, S.sha t⟩ := by unfold recO; rw [if_pos rfl]
    rw [e]
    have hl := hr.l
    simp only at hl
    have hsl : (S.sha t).length = 32 := S.sha_length t
    have CO : Hid (∀ U, Calls Tryz.prog 42 #[.string (M.bs t)] U fun e w' => e = .returned (.agg (dg (S.sha t))) ∧ Bl U w') := fun U => rOf t (by omega) U
    have hR32 : Rc32 ⟨k, 0, S.sha t⟩ := ⟨hk, hsl, by simp, by simp⟩
    have hrl := rv_size hR32
    have hir : (Tryz.prog.info? 44).map (·.size) = some (rvL ⟨k, 0, S.sha t⟩).length := by rw [rvL_length hR32]; exact info35
    obtain ⟨_, g1, g2, g3⟩ := HFA.out ((((W.alloc (.cells (dg k) 42)).alloc (.cells #[.int .i64 0, .string (M.bs t)] 46)).alloc (.cells (rv Go.Proofs.YtlblbdfpcaplkaaGreatDoor.V.zr) 44)).alloc (.cells (rv ⟨k, 0, Go.Proofs.YtlblbdfpcaplkaaGreatDoor.V.zd⟩) 44)) HB4.out
    clear g3
    have HSC : Hid (∀ w1, Bl ((((W.alloc (.cells (dg k) 42)).alloc (.cells #[.int .i64 0, .string (M.bs t)] 46)).alloc (.cells (rv Go.Proofs.YtlblbdfpcaplkaaGreatDoor.V.zr) 44)).alloc (.cells (rv ⟨k, 0, Go.Proofs.YtlblbdfpcaplkaaGreatDoor.V.zd⟩) 44)) w1 → w1.there (W.heap.size + 1 + 1 + 1) 33 (dg (S.sha t)).size ∧ (w1.setCells (W.heap.size + 1 + 1 + 1) 33 (dg (S.sha t)).toList).rangeAt (W.heap.size + 1 + 1 + 1) 0 (rvL ⟨k, 0, S.sha t⟩) ∧ (w1.setCells (W.heap.size + 1 + 1 + 1) 33 (dg (S.sha t)).toList).heap[W.heap.size + 1 + 1]? = some (.cells (rv Go.Proofs.YtlblbdfpcaplkaaGreatDoor.V.zr) 44 (0, 0)) ∧ Bl W (w1.setCells (W.heap.size + 1 + 1 + 1) 33 (dg (S.sha t)).toList)) := fun w1 h1 => by
      have hx := HX3.out w1 h1
      have hx' : w1.heap[W.heap.size + 1 + 1 + 1]? = some (.cells ((k.map vb ++ [Value.int .i64 0]) ++ (Go.Proofs.YtlblbdfpcaplkaaGreatDoor.V.zd.map vb ++ [])).toArray 44 (0, 0)) := by rw [hx]; simp [rv, rvL]
      have hn := heap_sets_list9 w1 (k.map vb ++ [Value.int .i64 0]) (Go.Proofs.YtlblbdfpcaplkaaGreatDoor.V.zd.map vb) [] ((S.sha t).map vb) 33 hx' (by simp [hk]) (by simp [hsl, zd_length])
      have hdl : (dg (S.sha t)).toList = (S.sha t).map vb := by simp [dg]
      rw [hdl]
      refine ⟨fun j hj => ?_, range_part hn [] (rvL ⟨k, 0, S.sha t⟩) [] 0 (by simp [rvL]) rfl, ?_, Bl.sets (by omega) _ _ _ (HWZ.out.step h1)⟩
      · rw [dg_size, hsl] at hj
        refine ⟨?_, frozen_rowM hx _⟩
        rw [Lib.cell_of_heap hx]
        have : 33 + j < (rv ⟨k, 0, Go.Proofs.YtlblbdfpcaplkaaGreatDoor.V.zd⟩).size := by rw [hxl]; omega
        simp [this]
      · rw [heap_sets_other9 (by omega)]
        exact (HFA.out w1 (HB4.out.step h1)).2.2.2
    clear hr e
    generalize S.sha t = D at *
    go_enter Tryz.func22, Tryz.ntmps22
    go_wp2_with (first
      | (refine wl_mid8 rfl 42 _ rfl W.heap.size 0 rfl (k.map vb) _ F0.out und27 rfl hi ?_)
      | (refine wl_build9 rfl 44 _ rfl #[(0, .agg (k.map vb).toArray), (1, .int .i64 0)] (by rfl) _ hBD ?_)
      | (refine wpList_store_row rfl 44 _ _ rfl (W.heap.size + 1 + 1 + 1) (rv ⟨k, 0, Go.Proofs.YtlblbdfpcaplkaaGreatDoor.V.zd⟩) rfl rfl 44 (rv Go.Proofs.YtlblbdfpcaplkaaGreatDoor.V.zr) (by rw [← HS3.out]; exact HZ3.out _) (by rw [hxl]; exact info35) (by rw [hzl, hxl]) (rv_one _) ?_; rw [← HS3.out, World.setRow_alloc_new, HS3.out])
      | (go_at_call 42; refine (CO.out _).mono ?_; clear CO; rintro e w1 ⟨rfl, H1⟩; obtain ⟨p1, p2, p3, p4⟩ := HSC.out w1 H1; have P1 : Hid _ := p1; have P2 : Hid _ := p2; have P3 : Hid _ := p3; have P4 : Hid _ := p4; clear p1 p2 p3 p4)
      | (refine wl_stmid rfl 42 _ _ rfl (W.heap.size + 1 + 1 + 1) 33 (dg D) rfl rfl P1.out (by rw [dg_size, hsl]; exact info27) (dg_one _) ?_)
      | (refine wl_mid8 rfl 44 _ rfl (W.heap.size + 1 + 1 + 1) 0 rfl (rvL ⟨k, 0, D⟩) _ P2.out hum rfl hir ?_)
      | (refine wpList_store_row rfl 44 _ _ rfl (W.heap.size + 1 + 1) (rv ⟨k, 0, D⟩) rfl rfl 44 (rv Go.Proofs.YtlblbdfpcaplkaaGreatDoor.V.zr) P3.out (by rw [hrl]; exact info35) (by rw [hzl, hrl]) (rv_one _) ?_))
    (try simp only [Exit.inBlock, Exit.then])
    refine bodyPost_ret (results_cell_row rfl _ _ _ 44 (rv ⟨k, 0, D⟩) (0, 0) _ rfl (setRow_heap _ _ _ _ _ _ P3.out) hum rfl (by rw [hrl]; exact info35)) rfl ?_
    exact ⟨rfl, below_setRow P4.out (by omega) _⟩
  · have e : recO k (c, t) = ⟨k, c, Go.Proofs.YtlblbdfpcaplkaaGreatDoor.V.zd⟩ := by unfold recO; rw [if_neg h0]
    rw [e]
    have h0i : (c == 0) = false := by simpa using h0
    obtain ⟨_, g1, g2, g3⟩ := HFA.out ((((W.alloc (.cells (dg k) 42)).alloc (.cells #[.int .i64 c, .string (M.bs t)] 46)).alloc (.cells (rv Go.Proofs.YtlblbdfpcaplkaaGreatDoor.V.zr) 44)).alloc (.cells (rv ⟨k, c, Go.Proofs.YtlblbdfpcaplkaaGreatDoor.V.zd⟩) 44)) HB4.out
    have G3 : Hid _ := g3
    have GX : Hid _ := HX3.out ((((W.alloc (.cells (dg k) 42)).alloc (.cells #[.int .i64 c, .string (M.bs t)] 46)).alloc (.cells (rv Go.Proofs.YtlblbdfpcaplkaaGreatDoor.V.zr) 44)).alloc (.cells (rv ⟨k, c, Go.Proofs.YtlblbdfpcaplkaaGreatDoor.V.zd⟩) 44)) (Bl.refl _)
    have hir : (Tryz.prog.info? 44).map (·.size) = some (rvL ⟨k, c, Go.Proofs.YtlblbdfpcaplkaaGreatDoor.V.zd⟩).length := by rw [rvL_length hX32]; exact info35
    have GR : Hid (((((W.alloc (.cells (dg k) 42)).alloc (.cells #[.int .i64 c, .string (M.bs t)] 46)).alloc (.cells (rv Go.Proofs.YtlblbdfpcaplkaaGreatDoor.V.zr) 44)).alloc (.cells (rv ⟨k, c, Go.Proofs.YtlblbdfpcaplkaaGreatDoor.V.zd⟩) 44)).rangeAt (W.heap.size + 1 + 1 + 1) 0 (rvL ⟨k, c, Go.Proofs.YtlblbdfpcaplkaaGreatDoor.V.zd⟩)) := range_part GX.out [] _ [] 0 (by simp [rv]) rfl
    clear g3 h0 e hr
    go_enter Tryz.func22, Tryz.ntmps22
    go_wp2_with (first
      | (refine wl_mid8 rfl 42 _ rfl W.heap.size 0 rfl (k.map vb) _ F0.out und27 rfl hi ?_)
      | (refine wl_build9 rfl 44 _ rfl #[(0, .agg (k.map vb).toArray), (1, .int .i64 c)] (by rfl) _ hBD ?_)
      | (refine wl_mid8 rfl 44 _ rfl (W.heap.size + 1 + 1 + 1) 0 rfl (rvL ⟨k, c, Go.Proofs.YtlblbdfpcaplkaaGreatDoor.V.zd⟩) _ GR.out hum rfl hir ?_)
      | (refine wpList_store_row rfl 44 _ _ rfl (W.heap.size + 1 + 1 + 1) (rv ⟨k, c, Go.Proofs.YtlblbdfpcaplkaaGreatDoor.V.zd⟩) rfl rfl 44 (rv Go.Proofs.YtlblbdfpcaplkaaGreatDoor.V.zr) (by rw [← HS3.out]; exact HZ3.out _) (by rw [hxl]; exact info35) (by rw [hzl, hxl]) (rv_one _) ?_; rw [← HS3.out, World.setRow_alloc_new, HS3.out])
      | (refine wpList_store_row rfl 44 _ _ rfl (W.heap.size + 1 + 1) (rv ⟨k, c, Go.Proofs.YtlblbdfpcaplkaaGreatDoor.V.zd⟩) rfl rfl 44 (rv Go.Proofs.YtlblbdfpcaplkaaGreatDoor.V.zr) G3.out (by rw [hxl]; exact info35) (by rw [hzl, hxl]) (rv_one _) ?_))
    (try simp only [Exit.inBlock, Exit.then])
    refine bodyPost_ret (results_cell_row rfl _ _ _ 44 (rv ⟨k, c, Go.Proofs.YtlblbdfpcaplkaaGreatDoor.V.zd⟩) (0, 0) _ rfl (setRow_heap _ _ _ _ _ _ G3.out) hum rfl (by rw [hxl]; exact info35)) rfl ?_
    exact ⟨rfl, below_setRow HWZ.out (by omega) _⟩
end Go.Proofs.YtlblbdfpcaplkaaGreatDoor
