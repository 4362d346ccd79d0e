/- What a store's use, drop and fill do. -/
import Derived.Test.YtlkllcnnnndllaaGreatDoorN2
namespace Go.Proofs.YtlkllcnnnndllaaGreatDoor
open Go.RowKit Go.Maps
set_option linter.unusedVariables false
set_option linter.unusedSimpArgs false

def useV (h : Hv) (i : Nat) (e : V.En) : Hv := { h with es := h.es.set i { e with used := h.uses + 1 }, uses := h.uses + 1 }
set_option maxRecDepth 8000 in
set_option maxHeartbeats 1000000 in
theorem use_x {w W : World} {b : HB} {h : Hv} {st : H.Sh} (x : HW w b h st W) {i : Nat} {e : V.En} (he : h.es[i]? = some e) (hu : h.uses ≤ 1000000) (hn : h.es.length ≤ 128) :
    Calls Tryz.prog 36 #[.pointer (some ⟨b.hv, 0, none⟩), .int .i64 (i : Int)] W fun e' w' => e' = .returned (.tuple #[]) ∧ HW w b (useV h i e) st w' := by
  have k2 := x.c2
  have k5 := x.c5
  have f := x.fh
  have fl := x.fl
  have ku := x.usedC he
  have hi : i < h.es.length := (List.getElem?_eq_some_iff.1 he).1
  have i0 : (0 : Int) ≤ (i : Int) := by omega
  have i1 : (i : Int) < (h.es.length : Int) := by omega
  have hne := x.ok.n6
  have XX : Hid (∀ n, HW w b (useV h i e) st (((W.setCell ⟨b.hv, 5, none⟩ (.int .i64 ((h.uses + 1 : Nat) : Int))).drewN n).setCell ⟨b.sl, i * 66 + 65, none⟩ (.int .i64 ((h.uses + 1 : Nat) : Int)))) := fun n => by
    have y := ((HX.own x { h with uses := h.uses + 1 } 5 (.int .i64 ((h.uses + 1 : Nat) : Int)) (by simp [hC]) rfl rfl).drewN n).used i e he (h.uses + 1)
    refine ⟨y.hb, y.hc, y.hh, y.hl, ?_, y.pn, y.ok, y.o, y.g, ?_, y.e, y.n⟩
    · exact y.mp.used he (h.uses + 1)
    · exact Uq_used x.u he (h.uses + 1)
  clear x he
  go_enter Tryz.func36, Tryz.ntmps36
  go_wp2_with fail
  go_region
  go_wp2_with fail
  refine bodyPost_end (results_none rfl _ _ _) rfl ?_
  exact ⟨rfl, XX.out 1⟩

theorem und100 : ∃ fs, Tryz.prog.underlying 96 = some (.struct fs) := ⟨_, Tryz.underlying96⟩
theorem info100 : (Tryz.prog.info? 96).map (·.size) = some 66 := by kernel_rfl
theorem svL_all (e : V.En) : (svL e).toArray.all (·.oneCell') = true := all_oneCell_toArray (svL_one e)
theorem HX.rngN {w W : World} {b : HB} {h : Hv} {em : List V.En} {st : H.Sh} (x : HX w b h em st W) {i : Nat} {e : V.En} (he : h.es[i]? = some e) : W.rangeAt b.sl (i * 66) (nmL e.kind e.dig) := by
  obtain ⟨c, z, q1, q2, q3⟩ := hvC_at x.e i e he
  exact range_part x.hl c (nmL e.kind e.dig) (e.ck.map vb ++ [.int .i64 (e.used : Int)] ++ z) (i * 66) (by rw [q1]; simp [svL, evL]) q2
theorem HX.rngE {w W : World} {b : HB} {h : Hv} {em : List V.En} {st : H.Sh} (x : HX w b h em st W) {i : Nat} {e : V.En} (he : h.es[i]? = some e) : W.rangeAt b.sl (i * 66) (evL e.kind e.dig e.ck) := by
  obtain ⟨c, z, q1, q2, q3⟩ := hvC_at x.e i e he
  exact range_part x.hl c (evL e.kind e.dig e.ck) ([.int .i64 (e.used : Int)] ++ z) (i * 66) (by rw [q1]; simp [svL]) q2
theorem HX.there {w W : World} {b : HB} {h : Hv} {em : List V.En} {st : H.Sh} (x : HX w b h em st W) {i : Nat} {e : V.En} (he : h.es[i]? = some e) : W.there b.sl (i * 66) 66 := fun j hj => by
  have e32 := x.e i e he
  have hl : j < (svL e).length := by rw [svL_length e32.d e32.c]; exact hj
  exact ⟨(x.rng he).isSome j hl, x.fl _⟩
section
variable {P : Program} {ops : Array Oper} {o : Oper} {a : Act} {w w2 : World} {K : Act → World → Prop} {Q : Exit → Act → World → Prop} {E : Prop}
theorem stepv_delete (hgd : o.guard = none) (m x : Operand) (ts : Array TypeId) (hop : o.op = Op.call { callee := Callee.builtin Builtin.delete, args := #[m, x], argTypes := ts }) (vm vx : Value) (hm : a.eval m = vm) (hx : a.eval x = vx)
    (hrun : (Builtin.delete_ ts o.type #[vm, vx]).run P w = .ok (.tuple #[]) w2) (h : K (a.put o.dst (.tuple #[])) w2) : if Region.wanted o (yielded ops a.tmps) = true then Oper.wp P o a w K Q else E := by
  have hw : Region.wanted o (yielded ops a.tmps) = true := by simp [Region.wanted, hgd]
  rw [if_pos hw]
  unfold Oper.wp
  simp [execOp, hop, resolve, invoke, builtin, hm, hx, hrun, Result.andThen]
  exact h
theorem stepv_mapUpdate (hgd : o.guard = none) (m x v : Operand) (t : TypeId) (hop : o.op = Op.mapUpdate t m x v) (vm vx vv : Value) (hm : a.eval m = vm) (hx : a.eval x = vx) (hv : a.eval v = vv)
    (hrun : (Instr.mapUpdate t vm vx vv).run P w = .ok () w2) (h : K (a.put o.dst undef) w2) : if Region.wanted o (yielded ops a.tmps) = true then Oper.wp P o a w K Q else E := by
  have hw : Region.wanted o (yielded ops a.tmps) = true := by simp [Region.wanted, hgd]
  rw [if_pos hw]
  unfold Oper.wp
  simp [execOp, hop, hm, hx, hv, hrun, Result.andThen]
  exact h
theorem stepv_store_mid (hgd : o.guard = none) (ty : TypeId) (x y : Operand) (ho : o.op = .store ty x y)
    (b q : Nat) (cells : Array Value) (hx : a.eval x = .pointer (some ⟨b, q, none⟩)) (hy : a.eval y = .agg cells)
    (ht : w.there b q cells.size) (hi : (P.info? ty).map (·.size) = some cells.size) (h1 : cells.all (·.oneCell') = true)
    (h : K (a.put o.dst undef) (w.setCells b q cells.toList)) : if Region.wanted o (yielded ops a.tmps) = true then Oper.wp P o a w K Q else E := by
  have hw : Region.wanted o (yielded ops a.tmps) = true := by simp [Region.wanted, hgd]
  rw [if_pos hw]
  exact wp_store_mid ty x y ho b q cells hx hy ht hi h1 h
end
theorem heap_turned {W W' : World} {b k : Nat} {C : Array Value} {t : TypeId} (ht : W.mapTurned W' b) (h : W.heap[k]? = some (.cells C t (0, 0))) : W'.heap[k]? = some (.cells C t (0, 0)) := by
  have g := ht.grown
  have hne : k ≠ b := fun e => by
    subst e
    obtain ⟨es, c, _, _, h1, _⟩ := ht
    rw [h] at h1; cases h1
  rw [g.block k (lt_of_heap h) (fun e => hne (Option.some.inj e))]; exact h
theorem range0 {W : World} {q : Nat} {k d c : List UInt8} (h : W.heap[q]? = some (.cells (ev k d c) 74 (0, 0))) : W.rangeAt q 0 (evL k d c) := range_part h [] (evL k d c) [] 0 (by simp [ev]) rfl
theorem rangeN {W : World} {q : Nat} {k d c : List UInt8} (h : W.heap[q]? = some (.cells (ev k d c) 74 (0, 0))) : W.rangeAt q 0 (nmL k d) := range_part h [] (nmL k d) (c.map vb) 0 (by simp [ev, evL]) rfl

def dropV (h : Hv) (i : Nat) : Hv := { h with es := h.es.set i V.en0 }
set_option maxRecDepth 8000 in
set_option maxHeartbeats 2000000 in
theorem drop_x {w W : World} {b : HB} {h : Hv} {st : H.Sh} (x : HW w b h st W) {i : Nat} {e : V.En} (he : h.es[i]? = some e) (hl : h.es.length ≤ 128) :
    Calls Tryz.prog 50 #[.pointer (some ⟨b.hv, 0, none⟩), .int .i64 (i : Int)] W fun e' w' => e' = .returned (.tuple #[]) ∧ HW w b (dropV h i) st w' := by
  have e32 := x.e i e he
  have hk := e32.k
  have hd := e32.d
  have hi : i < h.es.length := (List.getElem?_eq_some_iff.1 he).1
  have i0 : (0 : Int) ≤ (i : Int) := by omega
  have i1 : (i : Int) < (h.es.length : Int) := by omega
  have hzs := zeroSl
  obtain ⟨fs3, hum3⟩ := und73
  have hi73 : (Tryz.prog.info? 72).map (·.size) = some (nmL e.kind e.dig).length := by rw [info73, nmL_length hd]
  have hsz0 : (svL V.en0).toArray.size = 66 := by rw [List.size_toArray]; exact svL_length zd_length zd_length
  have XD : HX w b h h.es st W.drew := HX.drew x
  have KP : Hid (∀ (em : List V.En) W', HX w b h em st W' → W'.cell? ⟨b.hv, 3, none⟩ = some (.map (some b.mp)) ∧ W'.cell? ⟨b.hv, 2, none⟩ = some (.slice (some ⟨b.sl, 0, none⟩) h.es.length h.es.length) ∧ W'.rangeAt b.sl (i * 66) (nmL e.kind e.dig)) := fun em W' y => ⟨y.c3, y.c2, y.rngN he⟩
  clear x
  go_enter Tryz.func50, Tryz.ntmps50
  go_wp2_with fail
  refine wp_region_noPanic ?_
  refine wp_region_held_drew (S := (fun W => W.cell? ⟨b.hv, 3, none⟩ = some (.map (some b.mp)) ∧ W.cell? ⟨b.hv, 2, none⟩ = some (.slice (some ⟨b.sl, 0, none⟩) h.es.length h.es.length) ∧ W.rangeAt b.sl (i * 66) (nmL e.kind e.dig))) (by kernel_rfl) (KP.out _ _ XD) (fun hHeld => ?_)
  refine wpAnyH_take (i := 0) rfl (by kernel_rfl) (by kernel_rfl) (by kernel_rfl) (fun _ _ _ h => h) (yi_move (by kernel_rfl) rfl rfl) (by assumption) ?_
  simp only [Act.put, List.getElem_toArray, List.getElem_cons_succ, List.getElem_cons_zero, List.setIfInBounds_toArray, List.set_cons_zero, List.set_cons_succ]
  refine wpAnyH_take (i := 1) (v := ?_) rfl (by kernel_rfl) (by kernel_rfl) (by kernel_rfl) (fun _ _ _ h => h) (Or.inl ⟨by kernel_rfl, ?_⟩) (by assumption) ?_
  rotate_left
  · (intro w hSw; (try dsimp only at hSw); go_simp; (try with_reducible rfl))
  simp only [Act.put, List.getElem_toArray, List.getElem_cons_succ, List.getElem_cons_zero, List.setIfInBounds_toArray, List.set_cons_zero, List.set_cons_succ]
  refine wpAnyH_take (i := 2) (v := ?_) rfl (by kernel_rfl) (by kernel_rfl) (by kernel_rfl) (fun _ _ _ h => h) (Or.inl ⟨by kernel_rfl, ?_⟩) (by assumption) ?_
  rotate_left
  · (intro w hSw; (try dsimp only at hSw); go_simp; (try with_reducible rfl))
  simp only [Act.put, List.getElem_toArray, List.getElem_cons_succ, List.getElem_cons_zero, List.setIfInBounds_toArray, List.set_cons_zero, List.set_cons_succ]
  refine wpAnyH_take (i := 3) (v := ?_) rfl (by kernel_rfl) (by kernel_rfl) (by kernel_rfl) (fun _ _ _ h => h) (Or.inl ⟨by kernel_rfl, ?_⟩) (by assumption) ?_
  rotate_left
  · (intro w hSw; (try dsimp only at hSw); go_simp; (try with_reducible rfl))
  simp only [Act.put, List.getElem_toArray, List.getElem_cons_succ, List.getElem_cons_zero, List.setIfInBounds_toArray, List.set_cons_zero, List.set_cons_succ]
  refine wpAnyH_take (i := 4) rfl (by kernel_rfl) (by kernel_rfl) (by kernel_rfl) (fun _ _ _ h => h) (yi_move (by kernel_rfl) rfl rfl) (by assumption) ?_
  simp only [Act.put, List.getElem_toArray, List.getElem_cons_succ, List.getElem_cons_zero, List.setIfInBounds_toArray, List.set_cons_zero, List.set_cons_succ]
  refine wpAnyH_take (i := 5) (v := ?_) rfl (by kernel_rfl) (by kernel_rfl) (by kernel_rfl) (fun _ _ _ h => h) (Or.inl ⟨by kernel_rfl, ?_⟩) (by assumption) ?_
  rotate_left
  · (intro w hSw; (try dsimp only at hSw); go_simp; (try with_reducible rfl))
  simp only [Act.put, List.getElem_toArray, List.getElem_cons_succ, List.getElem_cons_zero, List.setIfInBounds_toArray, List.set_cons_zero, List.set_cons_succ]
  refine wpAnyH_take (i := 6) (v := ?_) rfl (by kernel_rfl) (by kernel_rfl) (by kernel_rfl) (fun _ _ _ h => h) (Or.inl ⟨by kernel_rfl, ?_⟩) (by assumption) ?_
  rotate_left
  · (intro w hSw; (try dsimp only at hSw); go_simp; (try with_reducible rfl))
  simp only [Act.put, List.getElem_toArray, List.getElem_cons_succ, List.getElem_cons_zero, List.setIfInBounds_toArray, List.set_cons_zero, List.set_cons_succ]
  refine wpAnyH_take (i := 7) (v := ?_) rfl (by kernel_rfl) (by kernel_rfl) (by kernel_rfl) (fun _ _ _ h => h) (Or.inl ⟨by kernel_rfl, ?_⟩) (by assumption) ?_
  rotate_left
  · (intro w hSw; (try dsimp only at hSw); go_simp; (try with_reducible rfl))
  simp only [Act.put, List.getElem_toArray, List.getElem_cons_succ, List.getElem_cons_zero, List.setIfInBounds_toArray, List.set_cons_zero, List.set_cons_succ]
  refine wpAnyH_take (i := 8) rfl (by kernel_rfl) (by kernel_rfl) (by kernel_rfl) (fun _ _ _ h => h) (yi_move (by kernel_rfl) rfl rfl) (by assumption) ?_
  simp only [Act.put, List.getElem_toArray, List.getElem_cons_succ, List.getElem_cons_zero, List.setIfInBounds_toArray, List.set_cons_zero, List.set_cons_succ]
  refine wpAnyH_take (i := 9) (v := ?_) rfl (by kernel_rfl) (by kernel_rfl) (by kernel_rfl) (fun _ _ _ h => h) (Or.inl ⟨by kernel_rfl, ?_⟩) (by assumption) ?_
  rotate_left
  · (intro w hSw; (try dsimp only at hSw); go_simp; (try with_reducible rfl))
  simp only [Act.put, List.getElem_toArray, List.getElem_cons_succ, List.getElem_cons_zero, List.setIfInBounds_toArray, List.set_cons_zero, List.set_cons_succ]
  refine wpAnyH_take (i := 10) (v := ?_) rfl (by kernel_rfl) (by kernel_rfl) (by kernel_rfl) (fun _ _ _ h => h) (Or.inl ⟨by kernel_rfl, ?_⟩) (by assumption) ?_
  rotate_left
  · (intro w hSw; (try dsimp only at hSw); go_simp; (try with_reducible rfl))
  simp only [Act.put, List.getElem_toArray, List.getElem_cons_succ, List.getElem_cons_zero, List.setIfInBounds_toArray, List.set_cons_zero, List.set_cons_succ]
  refine wpAnyH_take (i := 11) (v := ?_) rfl (by kernel_rfl) (by kernel_rfl) (by kernel_rfl) (fun _ _ _ h => h) (Or.inl ⟨by kernel_rfl, ?_⟩) (by assumption) ?_
  rotate_left
  · (intro w hSw; (try dsimp only at hSw); go_simp; (try with_reducible rfl))
  simp only [Act.put, List.getElem_toArray, List.getElem_cons_succ, List.getElem_cons_zero, List.setIfInBounds_toArray, List.set_cons_zero, List.set_cons_succ]
  refine wpAnyH_take (i := 12) (v := .agg (List.toArray (nmL e.kind e.dig))) rfl (by kernel_rfl) (by kernel_rfl) (by kernel_rfl) (fun _ _ _ h => h) (yieldsIf_load_mid (by kernel_rfl) _ (.tmp 15) (by kernel_rfl) b.sl (i * 66) (by kernel_rfl) (nmL e.kind e.dig) _ (fun W hW => hW.2.2) hum3 rfl hi73) (by assumption) ?_
  simp only [Act.put, List.getElem_toArray, List.getElem_cons_succ, List.getElem_cons_zero, List.setIfInBounds_toArray, List.set_cons_zero, List.set_cons_succ]
  refine wpAnyH_ready (rs := [13]) (by kernel_rfl) (by simp) ?_
  refine AllReadyH.cons (o := _) rfl (fun K hK => ?_) AllReadyH.nil
  obtain ⟨W2, hrun, hP, ht, hU⟩ := PW.drop XD.mp XD.u he hk hd 0
  have HD := HX.map XD ht hP hU
  refine stepv_delete rfl _ _ #[67, 72] rfl (.map (some b.mp)) (.agg (nmv e.kind e.dig)) (by rfl) (by rfl) hrun (hK.out _ _ (KP.out _ _ HD) (fun hHeld => ?_))
  clear hK K
  (try simp only [Act.put, List.getElem_toArray, List.getElem_cons_succ, List.getElem_cons_zero, List.setIfInBounds_toArray, List.set_cons_zero, List.set_cons_succ])
  refine wpAnyH_done (by kernel_rfl) ?_ _
  refine NoPanic.normal ?_
  have HX1 : Hid _ := HD
  have k2 := HD.c2
  have TH := HD.there he
  have hne := hzs
  go_wp2_with (refine wpList_store_mid rfl 96 _ _ rfl b.sl (i * 66) (svL V.en0).toArray rfl rfl (by rw [hsz0]; exact TH) (by rw [hsz0]; exact info100) (svL_all _) ?_)
  refine bodyPost_end (results_none rfl _ _ _) rfl ?_
  exact ⟨rfl, HX1.out.slot i e V.en0 he en0_32⟩

def fillV (h : Hv) (i : Nat) (e : V.En) : Hv := { h with es := h.es.set i { e with used := h.uses + 1 }, uses := h.uses + 1 }
set_option maxRecDepth 8000 in
set_option maxHeartbeats 2000000 in
theorem fill_x {w W : World} {b : HB} {h : Hv} {st : H.Sh} (x : HW w b h st W) {i : Nat} {f e : V.En} (hf : h.es[i]? = some f) (hf0 : f.kind = []) (e32 : En32 e) (hek : e.kind ≠ []) (hn : V.findN h.es e.kind e.dig = none) (hl : h.es.length ≤ 128) (hu : h.uses ≤ 1000000) :
    Calls Tryz.prog 51 #[.pointer (some ⟨b.hv, 0, none⟩), .int .i64 (i : Int), .agg (ev e.kind e.dig e.ck)] W fun e' w' => e' = .returned (.tuple #[]) ∧ HW w b (fillV h i e) st w' := by
  have hk := e32.k
  have hd := e32.d
  have e32' : En32 { e with used := 0 } := ⟨e32.d, e32.c, e32.k⟩
  have hi : i < h.es.length := (List.getElem?_eq_some_iff.1 hf).1
  have i0 : (0 : Int) ≤ (i : Int) := by omega
  have i1 : (i : Int) < (h.es.length : Int) := by omega
  obtain ⟨fs3, hum3⟩ := und73
  obtain ⟨fs5, hum5⟩ := und75
  have hi73 : (Tryz.prog.info? 72).map (·.size) = some (nmL e.kind e.dig).length := by rw [info73, nmL_length hd]
  have hi75 : (Tryz.prog.info? 74).map (·.size) = some (evL e.kind e.dig e.ck).length := by rw [info75, evL_length hd e32.c]
  have hszE : (svL { e with used := 0 }).toArray.size = 66 := by rw [List.size_toArray]; exact svL_length hd e32.c
  have HBS : Hid (∀ w, (Instr.build 96 #[(0, .agg (ev e.kind e.dig e.ck))]).run Tryz.prog w = .ok (.agg (svL { e with used := 0 }).toArray) w) := buildSl e.kind e.dig e.ck hd e32.c
  obtain ⟨W0, hW0⟩ : ∃ W0, W0 = W := ⟨_, rfl⟩
  have XD : HX w b h h.es st (W.alloc (.cells (ev e.kind e.dig e.ck) 74)).drew := (HX.alloc x _).drew
  have HN : Hid ((W.alloc (.cells (ev e.kind e.dig e.ck) 74)).drew.heap[W0.heap.size]? = some (.cells (ev e.kind e.dig e.ck) 74 (0, 0))) := by rw [hW0]; exact heap_alloc_new _ _
  have hlt : b.sl < W.heap.size := x.lt (.inr (.inr (.inr (.inl rfl))))
  have TH := XD.there hf
  have HD : HX w b { h with es := h.es.set i { e with used := 0 } } h.es st ((W.alloc (.cells (ev e.kind e.dig e.ck) 74)).drew.setCells b.sl (i * 66) (svL { e with used := 0 })) := XD.slot i f { e with used := 0 } hf e32'
  have HN2 : Hid (((W.alloc (.cells (ev e.kind e.dig e.ck) 74)).drew.setCells b.sl (i * 66) (svL { e with used := 0 })).heap[W0.heap.size]? = some (.cells (ev e.kind e.dig e.ck) 74 (0, 0))) := by
    show _ = _
    rw [heap_setCells_other (by rw [hW0]; omega)]; exact HN.out
  have KP : Hid (∀ (h' : Hv) W', HX w b h' h.es st W' → h'.es.length = h.es.length → W'.heap[W0.heap.size]? = some (.cells (ev e.kind e.dig e.ck) 74 (0, 0)) → W'.cell? ⟨b.hv, 2, none⟩ = some (.slice (some ⟨b.sl, 0, none⟩) h.es.length h.es.length) ∧ W'.heap[W0.heap.size]? = some (.cells (ev e.kind e.dig e.ck) 74 (0, 0))) := fun h' W' y hh q => ⟨by rw [y.c2, hh], q⟩
  have KP2 : Hid (∀ (em : List V.En) W', HX w b { h with es := h.es.set i { e with used := 0 } } em st W' → W'.heap[W0.heap.size]? = some (.cells (ev e.kind e.dig e.ck) 74 (0, 0)) → W'.cell? ⟨b.hv, 3, none⟩ = some (.map (some b.mp)) ∧ W'.heap[W0.heap.size]? = some (.cells (ev e.kind e.dig e.ck) 74 (0, 0))) := fun em W' y q => ⟨y.c3, q⟩
  subst hW0
  clear x hlt
  go_enter Tryz.func51, Tryz.ntmps51
  go_wp2_with fail
  refine wp_region_noPanic ?_
  refine wp_region_held_drew (S := (fun W => W.cell? ⟨b.hv, 2, none⟩ = some (.slice (some ⟨b.sl, 0, none⟩) h.es.length h.es.length) ∧ W.heap[W0.heap.size]? = some (.cells (ev e.kind e.dig e.ck) 74 (0, 0)))) (by kernel_rfl) (KP.out _ _ XD rfl HN.out) (fun hHeld => ?_)
  refine wpAnyH_take (i := 0) rfl (by kernel_rfl) (by kernel_rfl) (by kernel_rfl) (fun _ _ _ h => h) (yi_move (by kernel_rfl) rfl rfl) (by assumption) ?_
  simp only [Act.put, List.getElem_toArray, List.getElem_cons_succ, List.getElem_cons_zero, List.setIfInBounds_toArray, List.set_cons_zero, List.set_cons_succ]
  refine wpAnyH_take (i := 1) (v := ?_) rfl (by kernel_rfl) (by kernel_rfl) (by kernel_rfl) (fun _ _ _ h => h) (Or.inl ⟨by kernel_rfl, ?_⟩) (by assumption) ?_
  rotate_left
  · (intro w hSw; (try dsimp only at hSw); go_simp; (try with_reducible rfl))
  simp only [Act.put, List.getElem_toArray, List.getElem_cons_succ, List.getElem_cons_zero, List.setIfInBounds_toArray, List.set_cons_zero, List.set_cons_succ]
  refine wpAnyH_take (i := 2) (v := ?_) rfl (by kernel_rfl) (by kernel_rfl) (by kernel_rfl) (fun _ _ _ h => h) (Or.inl ⟨by kernel_rfl, ?_⟩) (by assumption) ?_
  rotate_left
  · (intro w hSw; (try dsimp only at hSw); go_simp; (try with_reducible rfl))
  simp only [Act.put, List.getElem_toArray, List.getElem_cons_succ, List.getElem_cons_zero, List.setIfInBounds_toArray, List.set_cons_zero, List.set_cons_succ]
  refine wpAnyH_take (i := 3) (v := ?_) rfl (by kernel_rfl) (by kernel_rfl) (by kernel_rfl) (fun _ _ _ h => h) (Or.inl ⟨by kernel_rfl, ?_⟩) (by assumption) ?_
  rotate_left
  · (intro w hSw; (try dsimp only at hSw); go_simp; (try with_reducible rfl))
  simp only [Act.put, List.getElem_toArray, List.getElem_cons_succ, List.getElem_cons_zero, List.setIfInBounds_toArray, List.set_cons_zero, List.set_cons_succ]
  refine wpAnyH_take (i := 4) rfl (by kernel_rfl) (by kernel_rfl) (by kernel_rfl) (fun _ _ _ h => h) (yi_move (by kernel_rfl) rfl rfl) (by assumption) ?_
  simp only [Act.put, List.getElem_toArray, List.getElem_cons_succ, List.getElem_cons_zero, List.setIfInBounds_toArray, List.set_cons_zero, List.set_cons_succ]
  refine wpAnyH_take (i := 5) (v := .agg (List.toArray (evL e.kind e.dig e.ck))) rfl (by kernel_rfl) (by kernel_rfl) (by kernel_rfl) (fun _ _ _ h => h) (yieldsIf_load_mid (by kernel_rfl) _ (.tmp 5) (by kernel_rfl) W0.heap.size 0 (by kernel_rfl) (evL e.kind e.dig e.ck) _ (fun W hW => range0 hW.2) hum5 rfl hi75) (by assumption) ?_
  simp only [Act.put, List.getElem_toArray, List.getElem_cons_succ, List.getElem_cons_zero, List.setIfInBounds_toArray, List.set_cons_zero, List.set_cons_succ]
  refine wpAnyH_take (i := 6) (v := .agg (svL { e with used := 0 }).toArray) rfl (by kernel_rfl) (by kernel_rfl) (by kernel_rfl) (fun _ _ _ h => h) (yi_build (by kernel_rfl) rfl _ (by rfl) (fun w => HBS.out w)) (by assumption) ?_
  simp only [Act.put, List.getElem_toArray, List.getElem_cons_succ, List.getElem_cons_zero, List.setIfInBounds_toArray, List.set_cons_zero, List.set_cons_succ]
  refine wpAnyH_take (i := 7) (v := ?_) rfl (by kernel_rfl) (by kernel_rfl) (by kernel_rfl) (fun _ _ _ h => h) (Or.inl ⟨by kernel_rfl, ?_⟩) (by assumption) ?_
  rotate_left
  · (intro w hSw; (try dsimp only at hSw); go_simp; (try with_reducible rfl))
  simp only [Act.put, List.getElem_toArray, List.getElem_cons_succ, List.getElem_cons_zero, List.setIfInBounds_toArray, List.set_cons_zero, List.set_cons_succ]
  refine wpAnyH_ready (rs := [8]) (by kernel_rfl) (by simp) ?_
  refine AllReadyH.cons (o := _) rfl (fun K hK => ?_) AllReadyH.nil
  refine stepv_store_mid rfl 96 _ _ rfl b.sl (i * 66) (svL { e with used := 0 }).toArray (by rfl) (by rfl) (by rw [hszE]; exact TH) (by rw [hszE]; exact info100) (svL_all _) (hK.out _ _ (KP.out _ _ HD (by simp) HN2.out) (fun hHeld => ?_))
  clear hK K
  (try simp only [Act.put, List.getElem_toArray, List.getElem_cons_succ, List.getElem_cons_zero, List.setIfInBounds_toArray, List.set_cons_zero, List.set_cons_succ])
  refine wpAnyH_done (by kernel_rfl) ?_ _
  refine NoPanic.normal ?_
  have XE0 : HX w b { h with es := h.es.set i { e with used := 0 } } h.es st _ := HD
  have XE := XE0.drew
  have HN3 : Hid _ := HN2.out
  clear XE0 hHeld
  go_wp2_with fail
  refine wp_region_noPanic ?_
  refine wp_region_held_drew (S := (fun W => W.cell? ⟨b.hv, 3, none⟩ = some (.map (some b.mp)) ∧ W.heap[W0.heap.size]? = some (.cells (ev e.kind e.dig e.ck) 74 (0, 0)))) (by kernel_rfl) (KP2.out _ _ XE HN3.out) (fun hHeld => ?_)
  refine wpAnyH_take (i := 0) rfl (by kernel_rfl) (by kernel_rfl) (by kernel_rfl) (fun _ _ _ h => h) (yi_move (by kernel_rfl) rfl rfl) (by assumption) ?_
  simp only [Act.put, List.getElem_toArray, List.getElem_cons_succ, List.getElem_cons_zero, List.setIfInBounds_toArray, List.set_cons_zero, List.set_cons_succ]
  refine wpAnyH_take (i := 1) (v := ?_) rfl (by kernel_rfl) (by kernel_rfl) (by kernel_rfl) (fun _ _ _ h => h) (Or.inl ⟨by kernel_rfl, ?_⟩) (by assumption) ?_
  rotate_left
  · (intro w hSw; (try dsimp only at hSw); go_simp; (try with_reducible rfl))
  simp only [Act.put, List.getElem_toArray, List.getElem_cons_succ, List.getElem_cons_zero, List.setIfInBounds_toArray, List.set_cons_zero, List.set_cons_succ]
  refine wpAnyH_take (i := 2) (v := ?_) rfl (by kernel_rfl) (by kernel_rfl) (by kernel_rfl) (fun _ _ _ h => h) (Or.inl ⟨by kernel_rfl, ?_⟩) (by assumption) ?_
  rotate_left
  · (intro w hSw; (try dsimp only at hSw); go_simp; (try with_reducible rfl))
  simp only [Act.put, List.getElem_toArray, List.getElem_cons_succ, List.getElem_cons_zero, List.setIfInBounds_toArray, List.set_cons_zero, List.set_cons_succ]
  refine wpAnyH_take (i := 3) (v := ?_) rfl (by kernel_rfl) (by kernel_rfl) (by kernel_rfl) (fun _ _ _ h => h) (Or.inl ⟨by kernel_rfl, ?_⟩) (by assumption) ?_
  rotate_left
  · (intro w hSw; (try dsimp only at hSw); go_simp; (try with_reducible rfl))
  simp only [Act.put, List.getElem_toArray, List.getElem_cons_succ, List.getElem_cons_zero, List.setIfInBounds_toArray, List.set_cons_zero, List.set_cons_succ]
  refine wpAnyH_take (i := 4) (v := ?_) rfl (by kernel_rfl) (by kernel_rfl) (by kernel_rfl) (fun _ _ _ h => h) (Or.inl ⟨by kernel_rfl, ?_⟩) (by assumption) ?_
  rotate_left
  · (intro w hSw; (try dsimp only at hSw); go_simp; (try with_reducible rfl))
  simp only [Act.put, List.getElem_toArray, List.getElem_cons_succ, List.getElem_cons_zero, List.setIfInBounds_toArray, List.set_cons_zero, List.set_cons_succ]
  refine wpAnyH_take (i := 5) (v := .agg (List.toArray (nmL e.kind e.dig))) rfl (by kernel_rfl) (by kernel_rfl) (by kernel_rfl) (fun _ _ _ h => h) (yieldsIf_load_mid (by kernel_rfl) _ (.tmp 18) (by kernel_rfl) W0.heap.size 0 (by kernel_rfl) (nmL e.kind e.dig) _ (fun W hW => rangeN hW.2) hum3 rfl hi73) (by assumption) ?_
  simp only [Act.put, List.getElem_toArray, List.getElem_cons_succ, List.getElem_cons_zero, List.setIfInBounds_toArray, List.set_cons_zero, List.set_cons_succ]
  refine wpAnyH_take (i := 6) rfl (by kernel_rfl) (by kernel_rfl) (by kernel_rfl) (fun _ _ _ h => h) (yi_move (by kernel_rfl) rfl rfl) (by assumption) ?_
  simp only [Act.put, List.getElem_toArray, List.getElem_cons_succ, List.getElem_cons_zero, List.setIfInBounds_toArray, List.set_cons_zero, List.set_cons_succ]
  refine wpAnyH_ready (rs := [7]) (by kernel_rfl) (by simp) ?_
  refine AllReadyH.cons (o := _) rfl (fun K hK => ?_) AllReadyH.nil
  obtain ⟨W2, hrun, hP, ht, hU⟩ := PW.fill XE.mp XE.u hf hf0 (e := { e with used := 0 }) hek hk hd hn hl
  have HF := HX.map XE ht hP hU
  have HN4 := heap_turned ht HN3.out
  refine stepv_mapUpdate rfl _ _ _ 67 rfl (.map (some b.mp)) (.agg (nmv e.kind e.dig)) (.int .i64 (i : Int)) (by rfl) (by rfl) (by rfl) hrun (hK.out _ _ (KP2.out _ _ HF HN4) (fun hHeld => ?_))
  clear hK K
  (try simp only [Act.put, List.getElem_toArray, List.getElem_cons_succ, List.getElem_cons_zero, List.setIfInBounds_toArray, List.set_cons_zero, List.set_cons_succ])
  refine wpAnyH_done (by kernel_rfl) ?_ _
  refine NoPanic.normal ?_
  have CU : Hid (HW w b { h with es := h.es.set i { e with used := 0 } } st W2) := HF
  go_wp2_with (go_at_call 36; refine (use_x CU.out (i := i) (e := { e with used := 0 }) (by simp [hi]) hu (by simp; exact hl)).mono ?_; rintro e' w' ⟨rfl, HZ⟩)
  refine bodyPost_end (results_none rfl _ _ _) rfl ?_
  exact ⟨rfl, by simpa [useV, fillV] using HZ⟩
end Go.Proofs.YtlkllcnnnndllaaGreatDoor
