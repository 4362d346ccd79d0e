/- What a store's look answers. -/
import Derived.Test.YtlkllcnnnndllaaGreatDoorN4
import Derived.Test.YtlkllcnnnndllaaGreatDoorQ1
namespace Go.Proofs.YtlkllcnnnndllaaGreatDoor
open Go.RowKit Go.Maps
set_option linter.unusedVariables false
set_option linter.unusedSimpArgs false
attribute [local go_sem ↓] zero77

theorem yi_lookup {P : Program} {ops : Array Oper} {S : World → Prop} {o : Oper} {a : Act} {t : TypeId} {m x : Operand} {v : Value} (hw : Region.wanted o (yielded ops a.tmps) = true) (ho : o.op = .lookup t m x true) (vm vx : Value) (hm : a.eval m = vm) (hx : a.eval x = vx) (hr : ∀ w, S w → (Instr.lookup t vm vx true).run P w = .ok v w) : YieldsIf P ops S o v a :=
  .inl ⟨hw, fun w hS => by unfold execOp; simp only [ho, hm, hx, Sem.run_bind, hr w hS, Result.andThen_ok, Sem.run_pure]⟩
theorem results_midV {P : Program} {fn : Func} {p q r : Tmp} {ty : TypeId} (h : fn.results = #[.tmp q, .cell p ty, .tmp r]) (tmps : Array Value) (w : World) (g : Nat) (t : TypeId) (cs : Array Value) (fr : Nat × Nat) (d : TypeDesc)
    (hp : tmps.getD p undef = .pointer (some ⟨g, 0, none⟩)) (hg : w.heap[g]? = some (.cells cs t fr))
    (hu : P.underlying ty = some d) (hd : (match d with | .struct _ | .array _ _ => true | _ => false) = true) (hi : (P.info? ty).map (·.size) = some cs.size) :
    (results fn tmps).run P w = .ok (.tuple #[tmps.getD q undef, .agg cs, tmps.getD r undef]) w := by
  have hp' : tmps[p]?.getD undef = .pointer (some ⟨g, 0, none⟩) := by simpa using hp
  simp [results, h, hp', asAddr, run_loadVar_row w g t ty cs fr d hg hu hd hi]
/-- a row beside the store is written -/
theorem HX.row {w W : World} {b : HB} {h : Hv} {em : List V.En} {st : H.Sh} (x : HX w b h em st W) {k : Nat} (hk : ¬ b.mem k) (hw : w.heap.size ≤ k) (h2 : 2 ≤ k) (C : Array Value) : HX w b h em st (W.setRow k C) := by
  have bl : ∀ j, j ≠ k → (W.setRow k C).heap[j]? = W.heap[j]? := fun j hj => by
    show (W.heap.modify k _)[j]? = _
    rw [Array.getElem?_modify, if_neg (fun e => hj e.symm)]
  have y := x
  have hb0 : OffB b w (W.setRow k C) := ⟨x.o.os, x.o.tape, x.o.output, by have := x.o.size; simp [World.setRow]; exact this, fun j hj hm => by rw [bl j (by omega)]; exact x.o.block j hj hm⟩
  have ne : ∀ j, b.mem j → j ≠ k := fun j hj e => hk (e ▸ hj)
  refine ⟨by rw [bl _ (ne _ (.inl rfl))]; exact x.hb, by rw [bl _ (ne _ (.inr (.inl rfl)))]; exact x.hc, by rw [bl _ (ne _ (.inr (.inr (.inl rfl))))]; exact x.hh, by rw [bl _ (ne _ (.inr (.inr (.inr (.inl rfl)))))]; exact x.hl,
    x.mp.block (bl _ (ne _ (.inr (.inr (.inr (.inr (.inl rfl))))))), x.pn.block (fun p hp => bl _ (ne _ (.inr (.inr (.inr (.inr (.inr hp))))))), x.ok, hb0, ?_, x.u, x.e, x.n⟩
  exact x.g.below (B := 2) (below_setRow (Below.refl 2 W) h2 C) (Nat.le_refl _)
/-- a row of the call's own beside the store -/
structure LK (w : World) (b : HB) (h : Hv) (em : List V.En) (st : H.Sh) (T : TypeId) (C : Array Value) (q : Nat) (W' : World) : Prop where
  x : HX w b h em st W'
  c : W'.heap[q]? = some (.cells C T (0, 0))
  m : ¬ b.mem q
  l : w.heap.size ≤ q
  z : 2 ≤ q
theorem LK.step {w W' W'' : World} {b : HB} {h : Hv} {em : List V.En} {st : H.Sh} {T : TypeId} {C : Array Value} {q : Nat} (k : LK w b h em st T C q W') (hb : Below W'.heap.size W' W'') : LK w b h em st T C q W'' :=
  ⟨k.x.step hb, by rw [hb.block _ (lt_of_heap k.c)]; exact k.c, k.m, k.l, k.z⟩
theorem LK.alloc {w W' : World} {b : HB} {h : Hv} {em : List V.En} {st : H.Sh} {T : TypeId} {C : Array Value} {q : Nat} (k : LK w b h em st T C q W') (o : Obj) : LK w b h em st T C q (W'.alloc o) := k.step ((Below.refl _ _).alloc (Nat.le_refl _) _)
theorem LK.drew {w W' : World} {b : HB} {h : Hv} {em : List V.En} {st : H.Sh} {T : TypeId} {C : Array Value} {q : Nat} (k : LK w b h em st T C q W') : LK w b h em st T C q W'.drew := k.step (Below.refl _ _).drew
/-- a call that turns the store: it leaves the row -/
theorem LK.turn {w W' W'' : World} {b : HB} {h h' : Hv} {em em' : List V.En} {st st' : H.Sh} {T : TypeId} {C : Array Value} {q : Nat} (k : LK w b h em st T C q W') (y : HX W' b h' em' st' W'') : LK w b h' em' st' T C q W'' :=
  ⟨k.x.trans y, by rw [y.o.block _ (lt_of_heap k.c) k.m]; exact k.c, k.m, k.l, k.z⟩
theorem LK.put {w W' : World} {b : HB} {h : Hv} {em : List V.En} {st : H.Sh} {T : TypeId} {C : Array Value} {q : Nat} (k : LK w b h em st T C q W') (D : Array Value) : LK w b h em st T D q (W'.setRow q D) := ⟨k.x.row k.m k.l k.z D, setRow_heap _ _ _ _ _ _ k.c, k.m, k.l, k.z⟩

set_option maxRecDepth 8000 in
set_option maxHeartbeats 4000000 in
theorem look_none {w W : World} {b : HB} {h : Hv} {st : H.Sh} (x : HW w b h st W) (k d : List UInt8) (hk : k.length ≤ 1) (hd : d.length = 32) (hf : V.findN h.es k d = none) :
    Calls Tryz.prog 34 #[.pointer (some ⟨b.hv, 0, none⟩), .agg (nmv k d)] W fun e' w' => e' = .returned (.tuple #[.int .i64 0, .agg (cv zc), .bool false]) ∧ HW w b h st w' := by
  obtain ⟨fs3, hum3⟩ := und73
  obtain ⟨fs7, hum7⟩ := und77
  have hzs := zc_size
  have h1 := cv_one zc
  have hi73 : (Tryz.prog.info? 72).map (·.size) = some (nmL k d).length := by rw [info73, nmL_length hd]
  have hmW : ¬ b.mem (W.heap.size + 1) := fun hm => by have := HX.lt x hm; omega
  have hwW : w.heap.size ≤ W.heap.size + 1 := by have := x.o.size; omega
  have L0 : LK w b h h.es st 76 (cv zc) (W.heap.size + 1) ((W.alloc (.cells (nmv k d) 72)).alloc (.cells (cv zc) 76)).drew := ⟨((HX.alloc x _).alloc _).drew, new2 _ _ _, hmW, hwW, by have := x.g.z; omega⟩
  have XD : True := trivial
  have KP : Hid ((((W.alloc (.cells (nmv k d) 72)).alloc (.cells (cv zc) 76)).drew.cell? ⟨b.hv, 3, none⟩ = some (.map (some b.mp)) ∧ PW ((W.alloc (.cells (nmv k d) 72)).alloc (.cells (cv zc) 76)).drew b.mp h.es) ∧ ((W.alloc (.cells (nmv k d) 72)).alloc (.cells (cv zc) 76)).drew.rangeAt W.heap.size 0 (nmL k d)) :=
    ⟨⟨L0.x.c3, L0.x.mp⟩, range_part (C := nmv k d) (T := 72) (by show ((W.alloc _).alloc _).heap[W.heap.size]? = _; rw [Below.heap_alloc _ _ _ (by simp)]; exact heap_alloc_new _ _) [] (nmL k d) [] 0 (by simp [nmv]) rfl⟩
  have HLK : Hid (∀ w', PW w' b.mp h.es → (Instr.lookup tMap (.map (some b.mp)) (.agg (nmv k d)) true).run Tryz.prog w' = .ok (.tuple #[.int .i64 0, .bool false]) w') := fun w' hp => by
    have := hp.look k d hk hd
    rw [hf] at this
    exact this
  have LX := L0
  clear x hf L0
  go_enter Tryz.func34, Tryz.ntmps34
  go_wp2_with fail
  refine wp_region_noPanic ?_
  refine wp_region_held_drew (S := (fun W' => (W'.cell? ⟨b.hv, 3, none⟩ = some (.map (some b.mp)) ∧ PW W' b.mp h.es) ∧ W'.rangeAt W.heap.size 0 (nmL k d))) (by kernel_rfl) (KP.out) (fun hHeld => ?_)
  refine wpAnyH_take (i := 0) rfl (by kernel_rfl) (by kernel_rfl) (by kernel_rfl) (fun _ _ _ h => h) (yi_move (by kernel_rfl) rfl rfl) (by assumption) ?_
  simp only [Act.put, List.getElem_toArray, List.getElem_cons_succ, List.getElem_cons_zero, List.setIfInBounds_toArray, List.set_cons_zero, List.set_cons_succ]
  refine wpAnyH_take (i := 1) (v := ?_) rfl (by kernel_rfl) (by kernel_rfl) (by kernel_rfl) (fun _ _ _ h => h) (Or.inl ⟨by kernel_rfl, ?_⟩) (by assumption) ?_
  rotate_left
  · (intro w hSw; (try dsimp only at hSw); go_simp; (try with_reducible rfl))
  simp only [Act.put, List.getElem_toArray, List.getElem_cons_succ, List.getElem_cons_zero, List.setIfInBounds_toArray, List.set_cons_zero, List.set_cons_succ]
  refine wpAnyH_take (i := 2) (v := ?_) rfl (by kernel_rfl) (by kernel_rfl) (by kernel_rfl) (fun _ _ _ h => h) (Or.inl ⟨by kernel_rfl, ?_⟩) (by assumption) ?_
  rotate_left
  · (intro w hSw; (try dsimp only at hSw); go_simp; (try with_reducible rfl))
  simp only [Act.put, List.getElem_toArray, List.getElem_cons_succ, List.getElem_cons_zero, List.setIfInBounds_toArray, List.set_cons_zero, List.set_cons_succ]
  refine wpAnyH_take (i := 3) (v := ?_) rfl (by kernel_rfl) (by kernel_rfl) (by kernel_rfl) (fun _ _ _ h => h) (Or.inl ⟨by kernel_rfl, ?_⟩) (by assumption) ?_
  rotate_left
  · (intro w hSw; (try dsimp only at hSw); go_simp; (try with_reducible rfl))
  simp only [Act.put, List.getElem_toArray, List.getElem_cons_succ, List.getElem_cons_zero, List.setIfInBounds_toArray, List.set_cons_zero, List.set_cons_succ]
  refine wpAnyH_take (i := 4) (v := .agg (List.toArray (nmL k d))) rfl (by kernel_rfl) (by kernel_rfl) (by kernel_rfl) (fun _ _ _ h => h) (yieldsIf_load_mid (by kernel_rfl) _ (.tmp 3) (by kernel_rfl) W.heap.size 0 (by kernel_rfl) (nmL k d) _ (fun W hW => hW.2) hum3 rfl hi73) (by assumption) ?_
  simp only [Act.put, List.getElem_toArray, List.getElem_cons_succ, List.getElem_cons_zero, List.setIfInBounds_toArray, List.set_cons_zero, List.set_cons_succ]
  refine wpAnyH_take (i := 5) (v := .tuple #[.int .i64 0, .bool false]) rfl (by kernel_rfl) (by kernel_rfl) (by kernel_rfl) (fun _ _ _ h => h) (yi_lookup (by kernel_rfl) rfl (.map (some b.mp)) (.agg (nmv k d)) (by rfl) (by rfl) (fun w hSw => HLK.out w hSw.1.2)) (by assumption) ?_
  simp only [Act.put, List.getElem_toArray, List.getElem_cons_succ, List.getElem_cons_zero, List.setIfInBounds_toArray, List.set_cons_zero, List.set_cons_succ]
  refine wpAnyH_take (i := 6) (v := ?_) rfl (by kernel_rfl) (by kernel_rfl) (by kernel_rfl) (fun _ _ _ h => h) (Or.inl ⟨by kernel_rfl, ?_⟩) (by assumption) ?_
  rotate_left
  · (intro w hSw; (try dsimp only at hSw); go_simp; (try with_reducible rfl))
  simp only [Act.put, List.getElem_toArray, List.getElem_cons_succ, List.getElem_cons_zero, List.setIfInBounds_toArray, List.set_cons_zero, List.set_cons_succ]
  refine wpAnyH_take (i := 7) (v := ?_) rfl (by kernel_rfl) (by kernel_rfl) (by kernel_rfl) (fun _ _ _ h => h) (Or.inl ⟨by kernel_rfl, ?_⟩) (by assumption) ?_
  rotate_left
  · (intro w hSw; (try dsimp only at hSw); go_simp; (try with_reducible rfl))
  simp only [Act.put, List.getElem_toArray, List.getElem_cons_succ, List.getElem_cons_zero, List.setIfInBounds_toArray, List.set_cons_zero, List.set_cons_succ]
  refine wpAnyH_take (i := 8) (v := ?_) rfl (by kernel_rfl) (by kernel_rfl) (by kernel_rfl) (fun _ _ _ h => h) (Or.inl ⟨by kernel_rfl, ?_⟩) (by assumption) ?_
  rotate_left
  · (intro w hSw; (try dsimp only at hSw); go_simp; (try with_reducible rfl))
  simp only [Act.put, List.getElem_toArray, List.getElem_cons_succ, List.getElem_cons_zero, List.setIfInBounds_toArray, List.set_cons_zero, List.set_cons_succ]
  refine wpAnyH_take (i := 9) (v := ?_) rfl (by kernel_rfl) (by kernel_rfl) (by kernel_rfl) (fun _ _ _ h => h) (Or.inl ⟨by kernel_rfl, ?_⟩) (by assumption) ?_
  rotate_left
  · (intro w hSw; (try dsimp only at hSw); go_simp; (try with_reducible rfl))
  simp only [Act.put, List.getElem_toArray, List.getElem_cons_succ, List.getElem_cons_zero, List.setIfInBounds_toArray, List.set_cons_zero, List.set_cons_succ]
  refine wpAnyH_take (i := 10) (v := ?_) rfl (by kernel_rfl) (by kernel_rfl) (by kernel_rfl) (fun _ _ _ h => h) (Or.inl ⟨by kernel_rfl, ?_⟩) (by assumption) ?_
  rotate_left
  · (intro w hSw; (try dsimp only at hSw); go_simp; (try with_reducible rfl))
  simp only [Act.put, List.getElem_toArray, List.getElem_cons_succ, List.getElem_cons_zero, List.setIfInBounds_toArray, List.set_cons_zero, List.set_cons_succ]
  refine wpAnyH_done (by kernel_rfl) ?_ _
  refine NoPanic.normal ?_
  clear hHeld HLK KP
  go_wp2_with (refine wpList_store_row rfl 76 _ _ rfl (W.heap.size + 1) (cv zc) rfl rfl 76 (cv zc) LX.c (by rw [hzs]; exact info77) rfl h1 ?_)
  (try simp only [Exit.inBlock, Exit.then])
  refine bodyPost_ret (results_midV rfl _ _ _ 76 (cv zc) (0, 0) _ rfl (setRow_heap _ _ _ _ _ _ LX.c) hum7 rfl (by rw [hzs]; exact info77)) rfl ?_
  exact ⟨rfl, (LX.put (cv zc)).x⟩

set_option maxRecDepth 8000 in
set_option maxHeartbeats 4000000 in
theorem look_off {w W : World} {b : HB} {h : Hv} {st : H.Sh} (x : HW w b h st W) (k d : List UInt8) (hk : k.length ≤ 1) (hd : d.length = 32) {i : Nat} {e : V.En} (hf : V.findN h.es k d = some i) (he : h.es[i]? = some e) (hn : h.es.length ≤ 128) (ho : st.off = true) :
    Calls Tryz.prog 34 #[.pointer (some ⟨b.hv, 0, none⟩), .agg (nmv k d)] W fun e' w' => e' = .returned (.tuple #[.int .i64 0, .agg (cv zc), .bool false]) ∧ HW w b h st w' := by
  obtain ⟨fs3, hum3⟩ := und73
  obtain ⟨fs7, hum7⟩ := und77
  have hzs := zc_size
  have h1 := cv_one zc
  have hi73 : (Tryz.prog.info? 72).map (·.size) = some (nmL k d).length := by rw [info73, nmL_length hd]
  have hmW : ¬ b.mem (W.heap.size + 1) := fun hm => by have := HX.lt x hm; omega
  have hwW : w.heap.size ≤ W.heap.size + 1 := by have := x.o.size; omega
  have L0 : LK w b h h.es st 76 (cv zc) (W.heap.size + 1) ((W.alloc (.cells (nmv k d) 72)).alloc (.cells (cv zc) 76)).drew := ⟨((HX.alloc x _).alloc _).drew, new2 _ _ _, hmW, hwW, by have := x.g.z; omega⟩
  have XD : True := trivial
  have KP : Hid ((((W.alloc (.cells (nmv k d) 72)).alloc (.cells (cv zc) 76)).drew.cell? ⟨b.hv, 3, none⟩ = some (.map (some b.mp)) ∧ PW ((W.alloc (.cells (nmv k d) 72)).alloc (.cells (cv zc) 76)).drew b.mp h.es) ∧ ((W.alloc (.cells (nmv k d) 72)).alloc (.cells (cv zc) 76)).drew.rangeAt W.heap.size 0 (nmL k d)) :=
    ⟨⟨L0.x.c3, L0.x.mp⟩, range_part (C := nmv k d) (T := 72) (by show ((W.alloc _).alloc _).heap[W.heap.size]? = _; rw [Below.heap_alloc _ _ _ (by simp)]; exact heap_alloc_new _ _) [] (nmL k d) [] 0 (by simp [nmv]) rfl⟩
  have hi : i < h.es.length := (List.getElem?_eq_some_iff.1 he).1
  have HLK : Hid (∀ w', PW w' b.mp h.es → (Instr.lookup tMap (.map (some b.mp)) (.agg (nmv k d)) true).run Tryz.prog w' = .ok (.tuple #[.int .i64 (i : Int), .bool true]) w') := fun w' hp => by
    have := hp.look k d hk hd
    rw [hf] at this
    exact this
  have LX := L0
  have CR : Hid (∀ W', LK w b h h.es st 76 (cv zc) (W.heap.size + 1) W' → Calls Tryz.prog 46 #[.pointer (some ⟨b.sh, 0, none⟩), .int .i64 (i : Int)] W' fun e' w' => e' = .returned (.tuple #[.string ⟨#[]⟩, .int .i64 10]) ∧ LK w b h h.es st 76 (cv zc) (W.heap.size + 1) w') := fun W' l => by
    have hs : slotE st (i : Int) = 10 := by unfold slotE; rw [ho, if_pos rfl]
    have h := Read_down l.x.sw (i : Int) (by rw [← l.x.n]; exact hn) (by rw [hs]; decide)
    rw [hs] at h
    refine h.mono ?_
    rintro e' w' ⟨rfl, n, rfl⟩
    exact ⟨rfl, l.step (below_drewN (Below.refl _ _) n)⟩
  have k0 := LX.x.c0
  clear x hf L0 ho
  go_enter Tryz.func34, Tryz.ntmps34
  go_wp2_with fail
  refine wp_region_noPanic ?_
  refine wp_region_held_drew (S := (fun W' => (W'.cell? ⟨b.hv, 3, none⟩ = some (.map (some b.mp)) ∧ PW W' b.mp h.es) ∧ W'.rangeAt W.heap.size 0 (nmL k d))) (by kernel_rfl) (KP.out) (fun hHeld => ?_)
  refine wpAnyH_take (i := 0) rfl (by kernel_rfl) (by kernel_rfl) (by kernel_rfl) (fun _ _ _ h => h) (yi_move (by kernel_rfl) rfl rfl) (by assumption) ?_
  simp only [Act.put, List.getElem_toArray, List.getElem_cons_succ, List.getElem_cons_zero, List.setIfInBounds_toArray, List.set_cons_zero, List.set_cons_succ]
  refine wpAnyH_take (i := 1) (v := ?_) rfl (by kernel_rfl) (by kernel_rfl) (by kernel_rfl) (fun _ _ _ h => h) (Or.inl ⟨by kernel_rfl, ?_⟩) (by assumption) ?_
  rotate_left
  · (intro w hSw; (try dsimp only at hSw); go_simp; (try with_reducible rfl))
  simp only [Act.put, List.getElem_toArray, List.getElem_cons_succ, List.getElem_cons_zero, List.setIfInBounds_toArray, List.set_cons_zero, List.set_cons_succ]
  refine wpAnyH_take (i := 2) (v := ?_) rfl (by kernel_rfl) (by kernel_rfl) (by kernel_rfl) (fun _ _ _ h => h) (Or.inl ⟨by kernel_rfl, ?_⟩) (by assumption) ?_
  rotate_left
  · (intro w hSw; (try dsimp only at hSw); go_simp; (try with_reducible rfl))
  simp only [Act.put, List.getElem_toArray, List.getElem_cons_succ, List.getElem_cons_zero, List.setIfInBounds_toArray, List.set_cons_zero, List.set_cons_succ]
  refine wpAnyH_take (i := 3) (v := ?_) rfl (by kernel_rfl) (by kernel_rfl) (by kernel_rfl) (fun _ _ _ h => h) (Or.inl ⟨by kernel_rfl, ?_⟩) (by assumption) ?_
  rotate_left
  · (intro w hSw; (try dsimp only at hSw); go_simp; (try with_reducible rfl))
  simp only [Act.put, List.getElem_toArray, List.getElem_cons_succ, List.getElem_cons_zero, List.setIfInBounds_toArray, List.set_cons_zero, List.set_cons_succ]
  refine wpAnyH_take (i := 4) (v := .agg (List.toArray (nmL k d))) rfl (by kernel_rfl) (by kernel_rfl) (by kernel_rfl) (fun _ _ _ h => h) (yieldsIf_load_mid (by kernel_rfl) _ (.tmp 3) (by kernel_rfl) W.heap.size 0 (by kernel_rfl) (nmL k d) _ (fun W hW => hW.2) hum3 rfl hi73) (by assumption) ?_
  simp only [Act.put, List.getElem_toArray, List.getElem_cons_succ, List.getElem_cons_zero, List.setIfInBounds_toArray, List.set_cons_zero, List.set_cons_succ]
  refine wpAnyH_take (i := 5) (v := .tuple #[.int .i64 (i : Int), .bool true]) rfl (by kernel_rfl) (by kernel_rfl) (by kernel_rfl) (fun _ _ _ h => h) (yi_lookup (by kernel_rfl) rfl (.map (some b.mp)) (.agg (nmv k d)) (by rfl) (by rfl) (fun w hSw => HLK.out w hSw.1.2)) (by assumption) ?_
  simp only [Act.put, List.getElem_toArray, List.getElem_cons_succ, List.getElem_cons_zero, List.setIfInBounds_toArray, List.set_cons_zero, List.set_cons_succ]
  refine wpAnyH_take (i := 6) (v := ?_) rfl (by kernel_rfl) (by kernel_rfl) (by kernel_rfl) (fun _ _ _ h => h) (Or.inl ⟨by kernel_rfl, ?_⟩) (by assumption) ?_
  rotate_left
  · (intro w hSw; (try dsimp only at hSw); go_simp; (try with_reducible rfl))
  simp only [Act.put, List.getElem_toArray, List.getElem_cons_succ, List.getElem_cons_zero, List.setIfInBounds_toArray, List.set_cons_zero, List.set_cons_succ]
  refine wpAnyH_take (i := 7) (v := ?_) rfl (by kernel_rfl) (by kernel_rfl) (by kernel_rfl) (fun _ _ _ h => h) (Or.inl ⟨by kernel_rfl, ?_⟩) (by assumption) ?_
  rotate_left
  · (intro w hSw; (try dsimp only at hSw); go_simp; (try with_reducible rfl))
  simp only [Act.put, List.getElem_toArray, List.getElem_cons_succ, List.getElem_cons_zero, List.setIfInBounds_toArray, List.set_cons_zero, List.set_cons_succ]
  refine wpAnyH_take (i := 8) (v := ?_) rfl (by kernel_rfl) (by kernel_rfl) (by kernel_rfl) (fun _ _ _ h => h) (Or.inl ⟨by kernel_rfl, ?_⟩) (by assumption) ?_
  rotate_left
  · (intro w hSw; (try dsimp only at hSw); go_simp; (try with_reducible rfl))
  simp only [Act.put, List.getElem_toArray, List.getElem_cons_succ, List.getElem_cons_zero, List.setIfInBounds_toArray, List.set_cons_zero, List.set_cons_succ]
  refine wpAnyH_take (i := 9) (v := ?_) rfl (by kernel_rfl) (by kernel_rfl) (by kernel_rfl) (fun _ _ _ h => h) (Or.inl ⟨by kernel_rfl, ?_⟩) (by assumption) ?_
  rotate_left
  · (intro w hSw; (try dsimp only at hSw); go_simp; (try with_reducible rfl))
  simp only [Act.put, List.getElem_toArray, List.getElem_cons_succ, List.getElem_cons_zero, List.setIfInBounds_toArray, List.set_cons_zero, List.set_cons_succ]
  refine wpAnyH_take (i := 10) (v := ?_) rfl (by kernel_rfl) (by kernel_rfl) (by kernel_rfl) (fun _ _ _ h => h) (Or.inl ⟨by kernel_rfl, ?_⟩) (by assumption) ?_
  rotate_left
  · (intro w hSw; (try dsimp only at hSw); go_simp; (try with_reducible rfl))
  simp only [Act.put, List.getElem_toArray, List.getElem_cons_succ, List.getElem_cons_zero, List.setIfInBounds_toArray, List.set_cons_zero, List.set_cons_succ]
  refine wpAnyH_done (by kernel_rfl) ?_ _
  refine NoPanic.normal ?_
  clear hHeld HLK KP
  go_wp2_with (first
    | (go_at_call 46; refine (CR.out _ LX).mono ?_; clear CR LX k0; rintro e' w2 ⟨rfl, LX⟩)
    | (refine wpList_store_row rfl 76 _ _ rfl (W.heap.size + 1) (cv zc) rfl rfl 76 (cv zc) LX.c (by rw [hzs]; exact info77) rfl h1 ?_))
  (try simp only [Exit.inBlock, Exit.then])
  refine bodyPost_ret (results_midV rfl _ _ _ 76 (cv zc) (0, 0) _ rfl (setRow_heap _ _ _ _ _ _ LX.c) hum7 rfl (by rw [hzs]; exact info77)) rfl ?_
  exact ⟨rfl, (LX.put (cv zc)).x⟩

set_option maxRecDepth 8000 in
set_option maxHeartbeats 4000000 in
theorem look_bad {w W : World} {b : HB} {h : Hv} {st : H.Sh} (x : HW w b h st W) (k d : List UInt8) (hk : k.length ≤ 1) (hd : d.length = 32) {i : Nat} {e : V.En} (hf : V.findN h.es k d = some i) (he : h.es[i]? = some e) (hn : h.es.length ≤ 128) {s : H.Sl} (ho : st.off = false) (hs : st.sl[i]? = some s) (hsm : s.text.length ≤ 640) (hdc : V.decode s.text = none) :
    Calls Tryz.prog 34 #[.pointer (some ⟨b.hv, 0, none⟩), .agg (nmv k d)] W fun e' w' => e' = .returned (.tuple #[.int .i64 0, .agg (cv zc), .bool false]) ∧ HW w b (dropV h i) st w' := by
  obtain ⟨fs3, hum3⟩ := und73
  obtain ⟨fs7, hum7⟩ := und77
  have hzs := zc_size
  have h1 := cv_one zc
  have hi73 : (Tryz.prog.info? 72).map (·.size) = some (nmL k d).length := by rw [info73, nmL_length hd]
  have hmW : ¬ b.mem (W.heap.size + 1) := fun hm => by have := HX.lt x hm; omega
  have hwW : w.heap.size ≤ W.heap.size + 1 := by have := x.o.size; omega
  have L0 : LK w b h h.es st 76 (cv zc) (W.heap.size + 1) ((W.alloc (.cells (nmv k d) 72)).alloc (.cells (cv zc) 76)).drew := ⟨((HX.alloc x _).alloc _).drew, new2 _ _ _, hmW, hwW, by have := x.g.z; omega⟩
  have XD : True := trivial
  have KP : Hid ((((W.alloc (.cells (nmv k d) 72)).alloc (.cells (cv zc) 76)).drew.cell? ⟨b.hv, 3, none⟩ = some (.map (some b.mp)) ∧ PW ((W.alloc (.cells (nmv k d) 72)).alloc (.cells (cv zc) 76)).drew b.mp h.es) ∧ ((W.alloc (.cells (nmv k d) 72)).alloc (.cells (cv zc) 76)).drew.rangeAt W.heap.size 0 (nmL k d)) :=
    ⟨⟨L0.x.c3, L0.x.mp⟩, range_part (C := nmv k d) (T := 72) (by show ((W.alloc _).alloc _).heap[W.heap.size]? = _; rw [Below.heap_alloc _ _ _ (by simp)]; exact heap_alloc_new _ _) [] (nmL k d) [] 0 (by simp [nmv]) rfl⟩
  have hi : i < h.es.length := (List.getElem?_eq_some_iff.1 he).1
  have HLK : Hid (∀ w', PW w' b.mp h.es → (Instr.lookup tMap (.map (some b.mp)) (.agg (nmv k d)) true).run Tryz.prog w' = .ok (.tuple #[.int .i64 (i : Int), .bool true]) w') := fun w' hp => by
    have := hp.look k d hk hd
    rw [hf] at this
    exact this
  have LX := L0
  have CR : Hid (∀ W', LK w b h h.es st 76 (cv zc) (W.heap.size + 1) W' → Calls Tryz.prog 46 #[.pointer (some ⟨b.sh, 0, none⟩), .int .i64 (i : Int)] W' fun e' w' => e' = .returned (.tuple #[.string (M.bs s.text), .int .i64 0]) ∧ LK w b h h.es st 76 (cv zc) (W.heap.size + 1) w') := fun W' l => by
    refine (Read_at l.x.sw hs (by rw [← l.x.n]; exact hn) ho).mono ?_
    rintro e' w' ⟨rfl, n, rfl⟩
    exact ⟨rfl, l.step (below_drewN (Below.refl _ _) n)⟩
  have CD1 : ∀ W', LK w b h h.es st 76 (cv zc) (W.heap.size + 1) W' → Calls Tryz.prog 53 #[.string (M.bs s.text)] W' fun e' w' => e' = .returned (dcV (V.decode s.text)) ∧ LK w b h h.es st 76 (cv zc) (W.heap.size + 1) w' := fun W' l => by
    refine (decode_at s.text W' l.x.g hsm).mono ?_
    rintro e' w' ⟨rfl, hb⟩
    exact ⟨rfl, l.step hb⟩
  have CDR : Hid (∀ W', LK w b h h.es st 76 (cv zc) (W.heap.size + 1) W' → Calls Tryz.prog 50 #[.pointer (some ⟨b.hv, 0, none⟩), .int .i64 (i : Int)] W' fun e' w' => e' = .returned (.tuple #[]) ∧ LK w b (dropV h i) (dropV h i).es st 76 (cv zc) (W.heap.size + 1) w') := fun W' l => by
    refine (drop_x (h := h) (w := W') (W := W') (b := b) (st := st) l.x.base he hn).mono ?_
    rintro e' w' ⟨rfl, y⟩
    exact ⟨rfl, l.turn y⟩
  have HST : Hid (∀ W : World, (W.alloc (.cells (cv zc) 76)).heap[W.heap.size]? = some (.cells (cv zc) 76 (0, 0))) := hst77
  have i0 : (0 : Int) ≤ (i : Int) := by omega
  have i1 : (i : Int) < (h.es.length : Int) := by omega
  have k0 := LX.x.c0
  have CD : Hid (∀ W', LK w b h h.es st 76 (cv zc) (W.heap.size + 1) W' → Calls Tryz.prog 53 #[.string (M.bs s.text)] W' fun e' w' => e' = .returned (.tuple #[.agg (cv zc), .bool false]) ∧ LK w b h h.es st 76 (cv zc) (W.heap.size + 1) w') := fun W' l => by
    have := CD1 W' l
    rw [hdc] at this
    exact this
  clear x hf L0 ho CD1 hdc hs
  go_enter Tryz.func34, Tryz.ntmps34
  go_wp2_with fail
  refine wp_region_noPanic ?_
  refine wp_region_held_drew (S := (fun W' => (W'.cell? ⟨b.hv, 3, none⟩ = some (.map (some b.mp)) ∧ PW W' b.mp h.es) ∧ W'.rangeAt W.heap.size 0 (nmL k d))) (by kernel_rfl) (KP.out) (fun hHeld => ?_)
  refine wpAnyH_take (i := 0) rfl (by kernel_rfl) (by kernel_rfl) (by kernel_rfl) (fun _ _ _ h => h) (yi_move (by kernel_rfl) rfl rfl) (by assumption) ?_
  simp only [Act.put, List.getElem_toArray, List.getElem_cons_succ, List.getElem_cons_zero, List.setIfInBounds_toArray, List.set_cons_zero, List.set_cons_succ]
  refine wpAnyH_take (i := 1) (v := ?_) rfl (by kernel_rfl) (by kernel_rfl) (by kernel_rfl) (fun _ _ _ h => h) (Or.inl ⟨by kernel_rfl, ?_⟩) (by assumption) ?_
  rotate_left
  · (intro w hSw; (try dsimp only at hSw); go_simp; (try with_reducible rfl))
  simp only [Act.put, List.getElem_toArray, List.getElem_cons_succ, List.getElem_cons_zero, List.setIfInBounds_toArray, List.set_cons_zero, List.set_cons_succ]
  refine wpAnyH_take (i := 2) (v := ?_) rfl (by kernel_rfl) (by kernel_rfl) (by kernel_rfl) (fun _ _ _ h => h) (Or.inl ⟨by kernel_rfl, ?_⟩) (by assumption) ?_
  rotate_left
  · (intro w hSw; (try dsimp only at hSw); go_simp; (try with_reducible rfl))
  simp only [Act.put, List.getElem_toArray, List.getElem_cons_succ, List.getElem_cons_zero, List.setIfInBounds_toArray, List.set_cons_zero, List.set_cons_succ]
  refine wpAnyH_take (i := 3) (v := ?_) rfl (by kernel_rfl) (by kernel_rfl) (by kernel_rfl) (fun _ _ _ h => h) (Or.inl ⟨by kernel_rfl, ?_⟩) (by assumption) ?_
  rotate_left
  · (intro w hSw; (try dsimp only at hSw); go_simp; (try with_reducible rfl))
  simp only [Act.put, List.getElem_toArray, List.getElem_cons_succ, List.getElem_cons_zero, List.setIfInBounds_toArray, List.set_cons_zero, List.set_cons_succ]
  refine wpAnyH_take (i := 4) (v := .agg (List.toArray (nmL k d))) rfl (by kernel_rfl) (by kernel_rfl) (by kernel_rfl) (fun _ _ _ h => h) (yieldsIf_load_mid (by kernel_rfl) _ (.tmp 3) (by kernel_rfl) W.heap.size 0 (by kernel_rfl) (nmL k d) _ (fun W hW => hW.2) hum3 rfl hi73) (by assumption) ?_
  simp only [Act.put, List.getElem_toArray, List.getElem_cons_succ, List.getElem_cons_zero, List.setIfInBounds_toArray, List.set_cons_zero, List.set_cons_succ]
  refine wpAnyH_take (i := 5) (v := .tuple #[.int .i64 (i : Int), .bool true]) rfl (by kernel_rfl) (by kernel_rfl) (by kernel_rfl) (fun _ _ _ h => h) (yi_lookup (by kernel_rfl) rfl (.map (some b.mp)) (.agg (nmv k d)) (by rfl) (by rfl) (fun w hSw => HLK.out w hSw.1.2)) (by assumption) ?_
  simp only [Act.put, List.getElem_toArray, List.getElem_cons_succ, List.getElem_cons_zero, List.setIfInBounds_toArray, List.set_cons_zero, List.set_cons_succ]
  refine wpAnyH_take (i := 6) (v := ?_) rfl (by kernel_rfl) (by kernel_rfl) (by kernel_rfl) (fun _ _ _ h => h) (Or.inl ⟨by kernel_rfl, ?_⟩) (by assumption) ?_
  rotate_left
  · (intro w hSw; (try dsimp only at hSw); go_simp; (try with_reducible rfl))
  simp only [Act.put, List.getElem_toArray, List.getElem_cons_succ, List.getElem_cons_zero, List.setIfInBounds_toArray, List.set_cons_zero, List.set_cons_succ]
  refine wpAnyH_take (i := 7) (v := ?_) rfl (by kernel_rfl) (by kernel_rfl) (by kernel_rfl) (fun _ _ _ h => h) (Or.inl ⟨by kernel_rfl, ?_⟩) (by assumption) ?_
  rotate_left
  · (intro w hSw; (try dsimp only at hSw); go_simp; (try with_reducible rfl))
  simp only [Act.put, List.getElem_toArray, List.getElem_cons_succ, List.getElem_cons_zero, List.setIfInBounds_toArray, List.set_cons_zero, List.set_cons_succ]
  refine wpAnyH_take (i := 8) (v := ?_) rfl (by kernel_rfl) (by kernel_rfl) (by kernel_rfl) (fun _ _ _ h => h) (Or.inl ⟨by kernel_rfl, ?_⟩) (by assumption) ?_
  rotate_left
  · (intro w hSw; (try dsimp only at hSw); go_simp; (try with_reducible rfl))
  simp only [Act.put, List.getElem_toArray, List.getElem_cons_succ, List.getElem_cons_zero, List.setIfInBounds_toArray, List.set_cons_zero, List.set_cons_succ]
  refine wpAnyH_take (i := 9) (v := ?_) rfl (by kernel_rfl) (by kernel_rfl) (by kernel_rfl) (fun _ _ _ h => h) (Or.inl ⟨by kernel_rfl, ?_⟩) (by assumption) ?_
  rotate_left
  · (intro w hSw; (try dsimp only at hSw); go_simp; (try with_reducible rfl))
  simp only [Act.put, List.getElem_toArray, List.getElem_cons_succ, List.getElem_cons_zero, List.setIfInBounds_toArray, List.set_cons_zero, List.set_cons_succ]
  refine wpAnyH_take (i := 10) (v := ?_) rfl (by kernel_rfl) (by kernel_rfl) (by kernel_rfl) (fun _ _ _ h => h) (Or.inl ⟨by kernel_rfl, ?_⟩) (by assumption) ?_
  rotate_left
  · (intro w hSw; (try dsimp only at hSw); go_simp; (try with_reducible rfl))
  simp only [Act.put, List.getElem_toArray, List.getElem_cons_succ, List.getElem_cons_zero, List.setIfInBounds_toArray, List.set_cons_zero, List.set_cons_succ]
  refine wpAnyH_done (by kernel_rfl) ?_ _
  refine NoPanic.normal ?_
  clear hHeld HLK KP
  go_wp2_with (first
    | (go_at_call 46; refine (CR.out _ LX).mono ?_; clear CR LX k0; rintro e' w2 ⟨rfl, LX⟩)
    | (go_at_call 53; refine (CD.out _ LX).mono ?_; clear CD LX; rintro e' w3 ⟨rfl, LX⟩)
    | (refine wpList_store_row rfl 76 _ _ rfl w3.heap.size (cv zc) rfl rfl 76 (cv zc) (HST.out w3) (by rw [hzs]; exact info77) rfl h1 ?_; clear HST; rw [World.setRow_alloc_new]))
  replace LX := (LX.alloc (.cells (cv zc) 76)).drew
  have X8 : True := trivial
  have KP8 := LX.x.c2
  refine wp_region_noPanic ?_
  refine wp_region_held_drew (S := (fun W' => W'.cell? ⟨b.hv, 2, none⟩ = some (.slice (some ⟨b.sl, 0, none⟩) h.es.length h.es.length))) (by kernel_rfl) (KP8) (fun hHeld => ?_)
  refine wpAnyH_take (i := 0) rfl (by kernel_rfl) (by kernel_rfl) (by kernel_rfl) (fun _ _ _ h => h) (yi_move (by kernel_rfl) rfl rfl) (by assumption) ?_
  simp only [Act.put, List.getElem_toArray, List.getElem_cons_succ, List.getElem_cons_zero, List.setIfInBounds_toArray, List.set_cons_zero, List.set_cons_succ]
  refine wpAnyH_take (i := 1) (v := ?_) rfl (by kernel_rfl) (by kernel_rfl) (by kernel_rfl) (fun _ _ _ h => h) (Or.inl ⟨by kernel_rfl, ?_⟩) (by assumption) ?_
  rotate_left
  · (intro w hSw; (try dsimp only at hSw); go_simp; (try with_reducible rfl))
  simp only [Act.put, List.getElem_toArray, List.getElem_cons_succ, List.getElem_cons_zero, List.setIfInBounds_toArray, List.set_cons_zero, List.set_cons_succ]
  refine wpAnyH_take (i := 2) rfl (by kernel_rfl) (by kernel_rfl) (by kernel_rfl) (fun _ _ _ h => h) (yi_move (by kernel_rfl) rfl rfl) (by assumption) ?_
  simp only [Act.put, List.getElem_toArray, List.getElem_cons_succ, List.getElem_cons_zero, List.setIfInBounds_toArray, List.set_cons_zero, List.set_cons_succ]
  refine wpAnyH_take (i := 3) (v := undef) rfl (by kernel_rfl) (by kernel_rfl) (by kernel_rfl) (fun _ _ _ h => h) (Or.inr ⟨by kernel_rfl, rfl⟩) (by assumption) ?_
  simp only [Act.put, List.getElem_toArray, List.getElem_cons_succ, List.getElem_cons_zero, List.setIfInBounds_toArray, List.set_cons_zero, List.set_cons_succ]
  refine wpAnyH_take (i := 4) (v := undef) rfl (by kernel_rfl) (by kernel_rfl) (by kernel_rfl) (fun _ _ _ h => h) (Or.inr ⟨by kernel_rfl, rfl⟩) (by assumption) ?_
  simp only [Act.put, List.getElem_toArray, List.getElem_cons_succ, List.getElem_cons_zero, List.setIfInBounds_toArray, List.set_cons_zero, List.set_cons_succ]
  refine wpAnyH_take (i := 5) (v := undef) rfl (by kernel_rfl) (by kernel_rfl) (by kernel_rfl) (fun _ _ _ h => h) (Or.inr ⟨by kernel_rfl, rfl⟩) (by assumption) ?_
  simp only [Act.put, List.getElem_toArray, List.getElem_cons_succ, List.getElem_cons_zero, List.setIfInBounds_toArray, List.set_cons_zero, List.set_cons_succ]
  refine wpAnyH_take (i := 6) (v := undef) rfl (by kernel_rfl) (by kernel_rfl) (by kernel_rfl) (fun _ _ _ h => h) (Or.inr ⟨by kernel_rfl, rfl⟩) (by assumption) ?_
  simp only [Act.put, List.getElem_toArray, List.getElem_cons_succ, List.getElem_cons_zero, List.setIfInBounds_toArray, List.set_cons_zero, List.set_cons_succ]
  refine wpAnyH_take (i := 7) (v := undef) rfl (by kernel_rfl) (by kernel_rfl) (by kernel_rfl) (fun _ _ _ h => h) (Or.inr ⟨by kernel_rfl, rfl⟩) (by assumption) ?_
  simp only [Act.put, List.getElem_toArray, List.getElem_cons_succ, List.getElem_cons_zero, List.setIfInBounds_toArray, List.set_cons_zero, List.set_cons_succ]
  refine wpAnyH_take (i := 8) (v := undef) rfl (by kernel_rfl) (by kernel_rfl) (by kernel_rfl) (fun _ _ _ h => h) (Or.inr ⟨by kernel_rfl, rfl⟩) (by assumption) ?_
  simp only [Act.put, List.getElem_toArray, List.getElem_cons_succ, List.getElem_cons_zero, List.setIfInBounds_toArray, List.set_cons_zero, List.set_cons_succ]
  refine wpAnyH_take (i := 9) (v := undef) rfl (by kernel_rfl) (by kernel_rfl) (by kernel_rfl) (fun _ _ _ h => h) (Or.inr ⟨by kernel_rfl, rfl⟩) (by assumption) ?_
  simp only [Act.put, List.getElem_toArray, List.getElem_cons_succ, List.getElem_cons_zero, List.setIfInBounds_toArray, List.set_cons_zero, List.set_cons_succ]
  refine wpAnyH_take (i := 10) (v := undef) rfl (by kernel_rfl) (by kernel_rfl) (by kernel_rfl) (fun _ _ _ h => h) (Or.inr ⟨by kernel_rfl, rfl⟩) (by assumption) ?_
  simp only [Act.put, List.getElem_toArray, List.getElem_cons_succ, List.getElem_cons_zero, List.setIfInBounds_toArray, List.set_cons_zero, List.set_cons_succ]
  refine wpAnyH_take (i := 11) (v := undef) rfl (by kernel_rfl) (by kernel_rfl) (by kernel_rfl) (fun _ _ _ h => h) (Or.inr ⟨by kernel_rfl, rfl⟩) (by assumption) ?_
  simp only [Act.put, List.getElem_toArray, List.getElem_cons_succ, List.getElem_cons_zero, List.setIfInBounds_toArray, List.set_cons_zero, List.set_cons_succ]
  refine wpAnyH_take (i := 12) (v := undef) rfl (by kernel_rfl) (by kernel_rfl) (by kernel_rfl) (fun _ _ _ h => h) (Or.inr ⟨by kernel_rfl, rfl⟩) (by assumption) ?_
  simp only [Act.put, List.getElem_toArray, List.getElem_cons_succ, List.getElem_cons_zero, List.setIfInBounds_toArray, List.set_cons_zero, List.set_cons_succ]
  refine wpAnyH_take (i := 13) (v := undef) rfl (by kernel_rfl) (by kernel_rfl) (by kernel_rfl) (fun _ _ _ h => h) (Or.inr ⟨by kernel_rfl, rfl⟩) (by assumption) ?_
  simp only [Act.put, List.getElem_toArray, List.getElem_cons_succ, List.getElem_cons_zero, List.setIfInBounds_toArray, List.set_cons_zero, List.set_cons_succ]
  refine wpAnyH_take (i := 14) (v := ?_) rfl (by kernel_rfl) (by kernel_rfl) (by kernel_rfl) (fun _ _ _ h => h) (Or.inl ⟨by kernel_rfl, ?_⟩) (by assumption) ?_
  rotate_left
  · (intro w hSw; (try dsimp only at hSw); go_simp; (try with_reducible rfl))
  simp only [Act.put, List.getElem_toArray, List.getElem_cons_succ, List.getElem_cons_zero, List.setIfInBounds_toArray, List.set_cons_zero, List.set_cons_succ]
  refine wpAnyH_done (by kernel_rfl) ?_ _
  refine NoPanic.normal ?_
  clear hHeld KP8
  go_wp2_with (first
    | (go_at_call 50; refine (CDR.out _ LX).mono ?_; clear CDR LX; rintro e' w4 ⟨rfl, LX⟩)
    | (refine wpList_store_row rfl 76 _ _ rfl (W.heap.size + 1) (cv zc) rfl rfl 76 (cv zc) LX.c (by rw [hzs]; exact info77) rfl h1 ?_))
  (try simp only [Exit.inBlock, Exit.then])
  refine bodyPost_ret (results_midV rfl _ _ _ 76 (cv zc) (0, 0) _ rfl (setRow_heap _ _ _ _ _ _ LX.c) hum7 rfl (by rw [hzs]; exact info77)) rfl ?_
  exact ⟨rfl, (LX.put (cv zc)).x⟩

theorem dec_len {t : List UInt8} {c : V.Ct} (h : V.decode t = some c) : c.dig.length = 32 ∧ c.ck.length = 32 ∧ Rc32 c.rc := by
  have hck : c.ck = t.take 32 ∧ 32 ≤ t.length := by
    rcases V.decode_some h with ⟨_, _, _, _, ht, hk⟩ | ⟨_, _, _, _, _, _, ht, hk⟩
    · exact ⟨hk, by rw [ht, V.sealB, List.length_append, S.sha_length]; omega⟩
    · exact ⟨hk, by rw [ht, V.sealB, List.length_append, S.sha_length]; omega⟩
  have hc : c.ck.length = 32 := by rw [hck.1]; simp; omega
  rcases V.decode_some h with ⟨_, hd, _, hz, _, _⟩ | ⟨_, hd, _, hcan, h1, h2, _, _⟩
  · exact ⟨by rw [hd]; exact S.sha_length _, hc, by rw [hz]; exact zr32⟩
  · refine ⟨by rw [hd]; exact h1, hc, h1, h2, ?_, ?_⟩ <;> (unfold V.canB at hcan; simp only [decide_eq_true_eq] at hcan; omega)

set_option maxRecDepth 8000 in
set_option maxHeartbeats 4000000 in
theorem look_mis {w W : World} {b : HB} {h : Hv} {st : H.Sh} (x : HW w b h st W) (k d : List UInt8) (hk : k.length ≤ 1) (hd : d.length = 32) {i : Nat} {e : V.En} (hf : V.findN h.es k d = some i) (he : h.es[i]? = some e) (hn : h.es.length ≤ 128) {s : H.Sl} (ho : st.off = false) (hs : st.sl[i]? = some s) (hsm : s.text.length ≤ 640) {c : V.Ct} (hdc : V.decode s.text = some c) (hne : ¬ (c.kind = e.kind ∧ c.dig = e.dig ∧ c.ck = e.ck)) :
    Calls Tryz.prog 34 #[.pointer (some ⟨b.hv, 0, none⟩), .agg (nmv k d)] W fun e' w' => e' = .returned (.tuple #[.int .i64 0, .agg (cv zc), .bool false]) ∧ HW w b (dropV h i) st w' := by
  obtain ⟨fs3, hum3⟩ := und73
  obtain ⟨fs7, hum7⟩ := und77
  have hzs := zc_size
  have h1 := cv_one zc
  have hi73 : (Tryz.prog.info? 72).map (·.size) = some (nmL k d).length := by rw [info73, nmL_length hd]
  have hmW : ¬ b.mem (W.heap.size + 1) := fun hm => by have := HX.lt x hm; omega
  have hwW : w.heap.size ≤ W.heap.size + 1 := by have := x.o.size; omega
  have L0 : LK w b h h.es st 76 (cv zc) (W.heap.size + 1) ((W.alloc (.cells (nmv k d) 72)).alloc (.cells (cv zc) 76)).drew := ⟨((HX.alloc x _).alloc _).drew, new2 _ _ _, hmW, hwW, by have := x.g.z; omega⟩
  have XD : True := trivial
  have KP : Hid ((((W.alloc (.cells (nmv k d) 72)).alloc (.cells (cv zc) 76)).drew.cell? ⟨b.hv, 3, none⟩ = some (.map (some b.mp)) ∧ PW ((W.alloc (.cells (nmv k d) 72)).alloc (.cells (cv zc) 76)).drew b.mp h.es) ∧ ((W.alloc (.cells (nmv k d) 72)).alloc (.cells (cv zc) 76)).drew.rangeAt W.heap.size 0 (nmL k d)) :=
    ⟨⟨L0.x.c3, L0.x.mp⟩, range_part (C := nmv k d) (T := 72) (by show ((W.alloc _).alloc _).heap[W.heap.size]? = _; rw [Below.heap_alloc _ _ _ (by simp)]; exact heap_alloc_new _ _) [] (nmL k d) [] 0 (by simp [nmv]) rfl⟩
  have hi : i < h.es.length := (List.getElem?_eq_some_iff.1 he).1
  have HLK : Hid (∀ w', PW w' b.mp h.es → (Instr.lookup tMap (.map (some b.mp)) (.agg (nmv k d)) true).run Tryz.prog w' = .ok (.tuple #[.int .i64 (i : Int), .bool true]) w') := fun w' hp => by
    have := hp.look k d hk hd
    rw [hf] at this
    exact this
  have LX := L0
  have CR : Hid (∀ W', LK w b h h.es st 76 (cv zc) (W.heap.size + 1) W' → Calls Tryz.prog 46 #[.pointer (some ⟨b.sh, 0, none⟩), .int .i64 (i : Int)] W' fun e' w' => e' = .returned (.tuple #[.string (M.bs s.text), .int .i64 0]) ∧ LK w b h h.es st 76 (cv zc) (W.heap.size + 1) w') := fun W' l => by
    refine (Read_at l.x.sw hs (by rw [← l.x.n]; exact hn) ho).mono ?_
    rintro e' w' ⟨rfl, n, rfl⟩
    exact ⟨rfl, l.step (below_drewN (Below.refl _ _) n)⟩
  have CD1 : ∀ W', LK w b h h.es st 76 (cv zc) (W.heap.size + 1) W' → Calls Tryz.prog 53 #[.string (M.bs s.text)] W' fun e' w' => e' = .returned (dcV (V.decode s.text)) ∧ LK w b h h.es st 76 (cv zc) (W.heap.size + 1) w' := fun W' l => by
    refine (decode_at s.text W' l.x.g hsm).mono ?_
    rintro e' w' ⟨rfl, hb⟩
    exact ⟨rfl, l.step hb⟩
  have CDR : Hid (∀ W', LK w b h h.es st 76 (cv zc) (W.heap.size + 1) W' → Calls Tryz.prog 50 #[.pointer (some ⟨b.hv, 0, none⟩), .int .i64 (i : Int)] W' fun e' w' => e' = .returned (.tuple #[]) ∧ LK w b (dropV h i) (dropV h i).es st 76 (cv zc) (W.heap.size + 1) w') := fun W' l => by
    refine (drop_x (h := h) (w := W') (W := W') (b := b) (st := st) l.x.base he hn).mono ?_
    rintro e' w' ⟨rfl, y⟩
    exact ⟨rfl, l.turn y⟩
  have HST : Hid (∀ W : World, (W.alloc (.cells (cv zc) 76)).heap[W.heap.size]? = some (.cells (cv zc) 76 (0, 0))) := hst77
  have i0 : (0 : Int) ≤ (i : Int) := by omega
  have i1 : (i : Int) < (h.es.length : Int) := by omega
  have k0 := LX.x.c0
  have hc32 : c.dig.length = 32 ∧ c.ck.length = 32 ∧ Rc32 c.rc := dec_len hdc
  have e32 := x.e i e he
  have hcz : (cvL c).toArray.size = 131 := by rw [List.size_toArray]; exact cvL_length hc32.1 hc32.2.1 hc32.2.2
  obtain ⟨fs5, hum5⟩ := und75
  have hi75 : (Tryz.prog.info? 74).map (·.size) = some (evL e.kind e.dig e.ck).length := by rw [info75, evL_length e32.d e32.c]
  have hi75c : (Tryz.prog.info? 74).map (·.size) = some (evL c.kind c.dig c.ck).length := by rw [info75, evL_length hc32.1 hc32.2.1]
  have hi77 : (Tryz.prog.info? 76).map (·.size) = some (cvL c).length := by rw [info77, cvL_length hc32.1 hc32.2.1 hc32.2.2]
  have CD : Hid (∀ W', LK w b h h.es st 76 (cv zc) (W.heap.size + 1) W' → Calls Tryz.prog 53 #[.string (M.bs s.text)] W' fun e' w' => e' = .returned (.tuple #[.agg (cvL c).toArray, .bool true]) ∧ LK w b h h.es st 76 (cv zc) (W.heap.size + 1) w') := fun W' l => by
    have := CD1 W' l
    rw [hdc] at this
    exact this
  have HRC : Hid (∀ W' : World, (W'.alloc (.cells (cvL c).toArray 76)).drew.rangeAt W'.heap.size 0 (evL c.kind c.dig c.ck) ∧ (W'.alloc (.cells (cvL c).toArray 76)).rangeAt W'.heap.size 0 (cvL c)) := fun W' =>
    ⟨range_part (C := (cvL c).toArray) (T := 76) (heap_alloc_new _ _) [] (evL c.kind c.dig c.ck) (.string (M.bs c.blob) :: rvL c.rc) 0 (by simp [cvL]) rfl, range_part (C := (cvL c).toArray) (T := 76) (heap_alloc_new _ _) [] (cvL c) [] 0 (by simp) rfl⟩
  have hEQ : ∀ W, (Op.equalIn 10000 74 (.agg (evL c.kind c.dig c.ck).toArray) (.agg (evL e.kind e.dig e.ck).toArray)).run Tryz.prog W = .ok false W := fun W => by
    have := eqEv c.kind e.kind c.dig e.dig c.ck e.ck hc32.1 e32.d hc32.2.1 e32.c W
    rw [decide_eq_false hne] at this
    exact this
  clear x hf L0 ho CD1 hdc hs hne
  go_enter Tryz.func34, Tryz.ntmps34
  go_wp2_with fail
  refine wp_region_noPanic ?_
  refine wp_region_held_drew (S := (fun W' => (W'.cell? ⟨b.hv, 3, none⟩ = some (.map (some b.mp)) ∧ PW W' b.mp h.es) ∧ W'.rangeAt W.heap.size 0 (nmL k d))) (by kernel_rfl) (KP.out) (fun hHeld => ?_)
  refine wpAnyH_take (i := 0) rfl (by kernel_rfl) (by kernel_rfl) (by kernel_rfl) (fun _ _ _ h => h) (yi_move (by kernel_rfl) rfl rfl) (by assumption) ?_
  simp only [Act.put, List.getElem_toArray, List.getElem_cons_succ, List.getElem_cons_zero, List.setIfInBounds_toArray, List.set_cons_zero, List.set_cons_succ]
  refine wpAnyH_take (i := 1) (v := ?_) rfl (by kernel_rfl) (by kernel_rfl) (by kernel_rfl) (fun _ _ _ h => h) (Or.inl ⟨by kernel_rfl, ?_⟩) (by assumption) ?_
  rotate_left
  · (intro w hSw; (try dsimp only at hSw); go_simp; (try with_reducible rfl))
  simp only [Act.put, List.getElem_toArray, List.getElem_cons_succ, List.getElem_cons_zero, List.setIfInBounds_toArray, List.set_cons_zero, List.set_cons_succ]
  refine wpAnyH_take (i := 2) (v := ?_) rfl (by kernel_rfl) (by kernel_rfl) (by kernel_rfl) (fun _ _ _ h => h) (Or.inl ⟨by kernel_rfl, ?_⟩) (by assumption) ?_
  rotate_left
  · (intro w hSw; (try dsimp only at hSw); go_simp; (try with_reducible rfl))
  simp only [Act.put, List.getElem_toArray, List.getElem_cons_succ, List.getElem_cons_zero, List.setIfInBounds_toArray, List.set_cons_zero, List.set_cons_succ]
  refine wpAnyH_take (i := 3) (v := ?_) rfl (by kernel_rfl) (by kernel_rfl) (by kernel_rfl) (fun _ _ _ h => h) (Or.inl ⟨by kernel_rfl, ?_⟩) (by assumption) ?_
  rotate_left
  · (intro w hSw; (try dsimp only at hSw); go_simp; (try with_reducible rfl))
  simp only [Act.put, List.getElem_toArray, List.getElem_cons_succ, List.getElem_cons_zero, List.setIfInBounds_toArray, List.set_cons_zero, List.set_cons_succ]
  refine wpAnyH_take (i := 4) (v := .agg (List.toArray (nmL k d))) rfl (by kernel_rfl) (by kernel_rfl) (by kernel_rfl) (fun _ _ _ h => h) (yieldsIf_load_mid (by kernel_rfl) _ (.tmp 3) (by kernel_rfl) W.heap.size 0 (by kernel_rfl) (nmL k d) _ (fun W hW => hW.2) hum3 rfl hi73) (by assumption) ?_
  simp only [Act.put, List.getElem_toArray, List.getElem_cons_succ, List.getElem_cons_zero, List.setIfInBounds_toArray, List.set_cons_zero, List.set_cons_succ]
  refine wpAnyH_take (i := 5) (v := .tuple #[.int .i64 (i : Int), .bool true]) rfl (by kernel_rfl) (by kernel_rfl) (by kernel_rfl) (fun _ _ _ h => h) (yi_lookup (by kernel_rfl) rfl (.map (some b.mp)) (.agg (nmv k d)) (by rfl) (by rfl) (fun w hSw => HLK.out w hSw.1.2)) (by assumption) ?_
  simp only [Act.put, List.getElem_toArray, List.getElem_cons_succ, List.getElem_cons_zero, List.setIfInBounds_toArray, List.set_cons_zero, List.set_cons_succ]
  refine wpAnyH_take (i := 6) (v := ?_) rfl (by kernel_rfl) (by kernel_rfl) (by kernel_rfl) (fun _ _ _ h => h) (Or.inl ⟨by kernel_rfl, ?_⟩) (by assumption) ?_
  rotate_left
  · (intro w hSw; (try dsimp only at hSw); go_simp; (try with_reducible rfl))
  simp only [Act.put, List.getElem_toArray, List.getElem_cons_succ, List.getElem_cons_zero, List.setIfInBounds_toArray, List.set_cons_zero, List.set_cons_succ]
  refine wpAnyH_take (i := 7) (v := ?_) rfl (by kernel_rfl) (by kernel_rfl) (by kernel_rfl) (fun _ _ _ h => h) (Or.inl ⟨by kernel_rfl, ?_⟩) (by assumption) ?_
  rotate_left
  · (intro w hSw; (try dsimp only at hSw); go_simp; (try with_reducible rfl))
  simp only [Act.put, List.getElem_toArray, List.getElem_cons_succ, List.getElem_cons_zero, List.setIfInBounds_toArray, List.set_cons_zero, List.set_cons_succ]
  refine wpAnyH_take (i := 8) (v := ?_) rfl (by kernel_rfl) (by kernel_rfl) (by kernel_rfl) (fun _ _ _ h => h) (Or.inl ⟨by kernel_rfl, ?_⟩) (by assumption) ?_
  rotate_left
  · (intro w hSw; (try dsimp only at hSw); go_simp; (try with_reducible rfl))
  simp only [Act.put, List.getElem_toArray, List.getElem_cons_succ, List.getElem_cons_zero, List.setIfInBounds_toArray, List.set_cons_zero, List.set_cons_succ]
  refine wpAnyH_take (i := 9) (v := ?_) rfl (by kernel_rfl) (by kernel_rfl) (by kernel_rfl) (fun _ _ _ h => h) (Or.inl ⟨by kernel_rfl, ?_⟩) (by assumption) ?_
  rotate_left
  · (intro w hSw; (try dsimp only at hSw); go_simp; (try with_reducible rfl))
  simp only [Act.put, List.getElem_toArray, List.getElem_cons_succ, List.getElem_cons_zero, List.setIfInBounds_toArray, List.set_cons_zero, List.set_cons_succ]
  refine wpAnyH_take (i := 10) (v := ?_) rfl (by kernel_rfl) (by kernel_rfl) (by kernel_rfl) (fun _ _ _ h => h) (Or.inl ⟨by kernel_rfl, ?_⟩) (by assumption) ?_
  rotate_left
  · (intro w hSw; (try dsimp only at hSw); go_simp; (try with_reducible rfl))
  simp only [Act.put, List.getElem_toArray, List.getElem_cons_succ, List.getElem_cons_zero, List.setIfInBounds_toArray, List.set_cons_zero, List.set_cons_succ]
  refine wpAnyH_done (by kernel_rfl) ?_ _
  refine NoPanic.normal ?_
  clear hHeld HLK KP
  go_wp2_with (first
    | (go_at_call 46; refine (CR.out _ LX).mono ?_; clear CR LX k0; rintro e' w2 ⟨rfl, LX⟩)
    | (go_at_call 53; refine (CD.out _ LX).mono ?_; clear CD LX; rintro e' w3 ⟨rfl, LX⟩)
    | (refine wpList_store_row rfl 76 _ _ rfl w3.heap.size (cvL c).toArray rfl rfl 76 (cv zc) (HST.out w3) (by rw [hcz]; exact info77) (by rw [hzs, hcz]) (all_oneCell_toArray (cvL_one c)) ?_; clear HST; rw [World.setRow_alloc_new]))
  have LX0 := LX
  replace LX := (LX.alloc (.cells (cvL c).toArray 76)).drew
  have X8 : True := trivial
  have KP8 : _ ∧ _ ∧ _ := ⟨LX.x.c2, (HRC.out w3).1, LX.x.rngE he⟩
  refine wp_region_noPanic ?_
  refine wp_region_held_drew (S := (fun W' => W'.cell? ⟨b.hv, 2, none⟩ = some (.slice (some ⟨b.sl, 0, none⟩) h.es.length h.es.length) ∧ W'.rangeAt w3.heap.size 0 (evL c.kind c.dig c.ck) ∧ W'.rangeAt b.sl (i * 66) (evL e.kind e.dig e.ck))) (by kernel_rfl) (KP8) (fun hHeld => ?_)
  refine wpAnyH_take (i := 0) rfl (by kernel_rfl) (by kernel_rfl) (by kernel_rfl) (fun _ _ _ h => h) (yi_move (by kernel_rfl) rfl rfl) (by assumption) ?_
  simp only [Act.put, List.getElem_toArray, List.getElem_cons_succ, List.getElem_cons_zero, List.setIfInBounds_toArray, List.set_cons_zero, List.set_cons_succ]
  refine wpAnyH_take (i := 1) (v := ?_) rfl (by kernel_rfl) (by kernel_rfl) (by kernel_rfl) (fun _ _ _ h => h) (Or.inl ⟨by kernel_rfl, ?_⟩) (by assumption) ?_
  rotate_left
  · (intro w hSw; (try dsimp only at hSw); go_simp; (try with_reducible rfl))
  simp only [Act.put, List.getElem_toArray, List.getElem_cons_succ, List.getElem_cons_zero, List.setIfInBounds_toArray, List.set_cons_zero, List.set_cons_succ]
  refine wpAnyH_take (i := 2) rfl (by kernel_rfl) (by kernel_rfl) (by kernel_rfl) (fun _ _ _ h => h) (yi_move (by kernel_rfl) rfl rfl) (by assumption) ?_
  simp only [Act.put, List.getElem_toArray, List.getElem_cons_succ, List.getElem_cons_zero, List.setIfInBounds_toArray, List.set_cons_zero, List.set_cons_succ]
  refine wpAnyH_take (i := 3) (v := ?_) rfl (by kernel_rfl) (by kernel_rfl) (by kernel_rfl) (fun _ _ _ h => h) (Or.inl ⟨by kernel_rfl, ?_⟩) (by assumption) ?_
  rotate_left
  · (intro w hSw; (try dsimp only at hSw); go_simp; (try with_reducible rfl))
  simp only [Act.put, List.getElem_toArray, List.getElem_cons_succ, List.getElem_cons_zero, List.setIfInBounds_toArray, List.set_cons_zero, List.set_cons_succ]
  refine wpAnyH_take (i := 4) (v := .agg (List.toArray (evL c.kind c.dig c.ck))) rfl (by kernel_rfl) (by kernel_rfl) (by kernel_rfl) (fun _ _ _ h => h) (yieldsIf_load_mid (by kernel_rfl) _ (.tmp 44) (by kernel_rfl) w3.heap.size 0 (by kernel_rfl) (evL c.kind c.dig c.ck) _ (fun W hW => hW.2.1) hum5 rfl hi75c) (by assumption) ?_
  simp only [Act.put, List.getElem_toArray, List.getElem_cons_succ, List.getElem_cons_zero, List.setIfInBounds_toArray, List.set_cons_zero, List.set_cons_succ]
  refine wpAnyH_take (i := 5) rfl (by kernel_rfl) (by kernel_rfl) (by kernel_rfl) (fun _ _ _ h => h) (yi_move (by kernel_rfl) rfl rfl) (by assumption) ?_
  simp only [Act.put, List.getElem_toArray, List.getElem_cons_succ, List.getElem_cons_zero, List.setIfInBounds_toArray, List.set_cons_zero, List.set_cons_succ]
  refine wpAnyH_take (i := 6) (v := ?_) rfl (by kernel_rfl) (by kernel_rfl) (by kernel_rfl) (fun _ _ _ h => h) (Or.inl ⟨by kernel_rfl, ?_⟩) (by assumption) ?_
  rotate_left
  · (intro w hSw; (try dsimp only at hSw); go_simp; (try with_reducible rfl))
  simp only [Act.put, List.getElem_toArray, List.getElem_cons_succ, List.getElem_cons_zero, List.setIfInBounds_toArray, List.set_cons_zero, List.set_cons_succ]
  refine wpAnyH_take (i := 7) (v := ?_) rfl (by kernel_rfl) (by kernel_rfl) (by kernel_rfl) (fun _ _ _ h => h) (Or.inl ⟨by kernel_rfl, ?_⟩) (by assumption) ?_
  rotate_left
  · (intro w hSw; (try dsimp only at hSw); go_simp; (try with_reducible rfl))
  simp only [Act.put, List.getElem_toArray, List.getElem_cons_succ, List.getElem_cons_zero, List.setIfInBounds_toArray, List.set_cons_zero, List.set_cons_succ]
  refine wpAnyH_take (i := 8) (v := ?_) rfl (by kernel_rfl) (by kernel_rfl) (by kernel_rfl) (fun _ _ _ h => h) (Or.inl ⟨by kernel_rfl, ?_⟩) (by assumption) ?_
  rotate_left
  · (intro w hSw; (try dsimp only at hSw); go_simp; (try with_reducible rfl))
  simp only [Act.put, List.getElem_toArray, List.getElem_cons_succ, List.getElem_cons_zero, List.setIfInBounds_toArray, List.set_cons_zero, List.set_cons_succ]
  refine wpAnyH_take (i := 9) rfl (by kernel_rfl) (by kernel_rfl) (by kernel_rfl) (fun _ _ _ h => h) (yi_move (by kernel_rfl) rfl rfl) (by assumption) ?_
  simp only [Act.put, List.getElem_toArray, List.getElem_cons_succ, List.getElem_cons_zero, List.setIfInBounds_toArray, List.set_cons_zero, List.set_cons_succ]
  refine wpAnyH_take (i := 10) (v := ?_) rfl (by kernel_rfl) (by kernel_rfl) (by kernel_rfl) (fun _ _ _ h => h) (Or.inl ⟨by kernel_rfl, ?_⟩) (by assumption) ?_
  rotate_left
  · (intro w hSw; (try dsimp only at hSw); go_simp; (try with_reducible rfl))
  simp only [Act.put, List.getElem_toArray, List.getElem_cons_succ, List.getElem_cons_zero, List.setIfInBounds_toArray, List.set_cons_zero, List.set_cons_succ]
  refine wpAnyH_take (i := 11) (v := ?_) rfl (by kernel_rfl) (by kernel_rfl) (by kernel_rfl) (fun _ _ _ h => h) (Or.inl ⟨by kernel_rfl, ?_⟩) (by assumption) ?_
  rotate_left
  · (intro w hSw; (try dsimp only at hSw); go_simp; (try with_reducible rfl))
  simp only [Act.put, List.getElem_toArray, List.getElem_cons_succ, List.getElem_cons_zero, List.setIfInBounds_toArray, List.set_cons_zero, List.set_cons_succ]
  refine wpAnyH_take (i := 12) (v := .agg (List.toArray (evL e.kind e.dig e.ck))) rfl (by kernel_rfl) (by kernel_rfl) (by kernel_rfl) (fun _ _ _ h => h) (yieldsIf_load_mid (by kernel_rfl) _ (.tmp 52) (by kernel_rfl) b.sl (i * 66) (by kernel_rfl) (evL e.kind e.dig e.ck) _ (fun W hW => hW.2.2) hum5 rfl hi75) (by assumption) ?_
  simp only [Act.put, List.getElem_toArray, List.getElem_cons_succ, List.getElem_cons_zero, List.setIfInBounds_toArray, List.set_cons_zero, List.set_cons_succ]
  refine wpAnyH_take (i := 13) (v := ?_) rfl (by kernel_rfl) (by kernel_rfl) (by kernel_rfl) (fun _ _ _ h => h) (Or.inl ⟨by kernel_rfl, ?_⟩) (by assumption) ?_
  rotate_left
  · (intro w hSw; (try dsimp only at hSw); go_simp; (try with_reducible rfl))
  simp only [Act.put, List.getElem_toArray, List.getElem_cons_succ, List.getElem_cons_zero, List.setIfInBounds_toArray, List.set_cons_zero, List.set_cons_succ]
  refine wpAnyH_take (i := 14) (v := ?_) rfl (by kernel_rfl) (by kernel_rfl) (by kernel_rfl) (fun _ _ _ h => h) (Or.inl ⟨by kernel_rfl, ?_⟩) (by assumption) ?_
  rotate_left
  · (intro w hSw; (try dsimp only at hSw); go_simp; (try with_reducible rfl))
  simp only [Act.put, List.getElem_toArray, List.getElem_cons_succ, List.getElem_cons_zero, List.setIfInBounds_toArray, List.set_cons_zero, List.set_cons_succ]
  refine wpAnyH_done (by kernel_rfl) ?_ _
  refine NoPanic.normal ?_
  clear hHeld KP8
  go_wp2_with (first
    | (go_at_call 50; refine (CDR.out _ LX).mono ?_; clear CDR LX; rintro e' w4 ⟨rfl, LX⟩)
    | (refine wpList_store_row rfl 76 _ _ rfl (W.heap.size + 1) (cv zc) rfl rfl 76 (cv zc) LX.c (by rw [hzs]; exact info77) rfl h1 ?_))
  (try simp only [Exit.inBlock, Exit.then])
  refine bodyPost_ret (results_midV rfl _ _ _ 76 (cv zc) (0, 0) _ rfl (setRow_heap _ _ _ _ _ _ LX.c) hum7 rfl (by rw [hzs]; exact info77)) rfl ?_
  exact ⟨rfl, (LX.put (cv zc)).x⟩

set_option maxRecDepth 8000 in
set_option maxHeartbeats 4000000 in
theorem look_yes {w W : World} {b : HB} {h : Hv} {st : H.Sh} (x : HW w b h st W) (k d : List UInt8) (hk : k.length ≤ 1) (hd : d.length = 32) {i : Nat} {e : V.En} (hf : V.findN h.es k d = some i) (he : h.es[i]? = some e) (hn : h.es.length ≤ 128) {s : H.Sl} (ho : st.off = false) (hs : st.sl[i]? = some s) (hsm : s.text.length ≤ 640) {c : V.Ct} (hdc : V.decode s.text = some c) (heq : c.kind = e.kind ∧ c.dig = e.dig ∧ c.ck = e.ck) :
    Calls Tryz.prog 34 #[.pointer (some ⟨b.hv, 0, none⟩), .agg (nmv k d)] W fun e' w' => e' = .returned (.tuple #[.int .i64 (i : Int), .agg (cv c), .bool true]) ∧ HW w b h st w' := by
  obtain ⟨fs3, hum3⟩ := und73
  obtain ⟨fs7, hum7⟩ := und77
  have hzs := zc_size
  have h1 := cv_one zc
  have hi73 : (Tryz.prog.info? 72).map (·.size) = some (nmL k d).length := by rw [info73, nmL_length hd]
  have hmW : ¬ b.mem (W.heap.size + 1) := fun hm => by have := HX.lt x hm; omega
  have hwW : w.heap.size ≤ W.heap.size + 1 := by have := x.o.size; omega
  have L0 : LK w b h h.es st 76 (cv zc) (W.heap.size + 1) ((W.alloc (.cells (nmv k d) 72)).alloc (.cells (cv zc) 76)).drew := ⟨((HX.alloc x _).alloc _).drew, new2 _ _ _, hmW, hwW, by have := x.g.z; omega⟩
  have XD : True := trivial
  have KP : Hid ((((W.alloc (.cells (nmv k d) 72)).alloc (.cells (cv zc) 76)).drew.cell? ⟨b.hv, 3, none⟩ = some (.map (some b.mp)) ∧ PW ((W.alloc (.cells (nmv k d) 72)).alloc (.cells (cv zc) 76)).drew b.mp h.es) ∧ ((W.alloc (.cells (nmv k d) 72)).alloc (.cells (cv zc) 76)).drew.rangeAt W.heap.size 0 (nmL k d)) :=
    ⟨⟨L0.x.c3, L0.x.mp⟩, range_part (C := nmv k d) (T := 72) (by show ((W.alloc _).alloc _).heap[W.heap.size]? = _; rw [Below.heap_alloc _ _ _ (by simp)]; exact heap_alloc_new _ _) [] (nmL k d) [] 0 (by simp [nmv]) rfl⟩
  have hi : i < h.es.length := (List.getElem?_eq_some_iff.1 he).1
  have HLK : Hid (∀ w', PW w' b.mp h.es → (Instr.lookup tMap (.map (some b.mp)) (.agg (nmv k d)) true).run Tryz.prog w' = .ok (.tuple #[.int .i64 (i : Int), .bool true]) w') := fun w' hp => by
    have := hp.look k d hk hd
    rw [hf] at this
    exact this
  have LX := L0
  have CR : Hid (∀ W', LK w b h h.es st 76 (cv zc) (W.heap.size + 1) W' → Calls Tryz.prog 46 #[.pointer (some ⟨b.sh, 0, none⟩), .int .i64 (i : Int)] W' fun e' w' => e' = .returned (.tuple #[.string (M.bs s.text), .int .i64 0]) ∧ LK w b h h.es st 76 (cv zc) (W.heap.size + 1) w') := fun W' l => by
    refine (Read_at l.x.sw hs (by rw [← l.x.n]; exact hn) ho).mono ?_
    rintro e' w' ⟨rfl, n, rfl⟩
    exact ⟨rfl, l.step (below_drewN (Below.refl _ _) n)⟩
  have CD1 : ∀ W', LK w b h h.es st 76 (cv zc) (W.heap.size + 1) W' → Calls Tryz.prog 53 #[.string (M.bs s.text)] W' fun e' w' => e' = .returned (dcV (V.decode s.text)) ∧ LK w b h h.es st 76 (cv zc) (W.heap.size + 1) w' := fun W' l => by
    refine (decode_at s.text W' l.x.g hsm).mono ?_
    rintro e' w' ⟨rfl, hb⟩
    exact ⟨rfl, l.step hb⟩
  have CDR : Hid (∀ W', LK w b h h.es st 76 (cv zc) (W.heap.size + 1) W' → Calls Tryz.prog 50 #[.pointer (some ⟨b.hv, 0, none⟩), .int .i64 (i : Int)] W' fun e' w' => e' = .returned (.tuple #[]) ∧ LK w b (dropV h i) (dropV h i).es st 76 (cv zc) (W.heap.size + 1) w') := fun W' l => by
    refine (drop_x (h := h) (w := W') (W := W') (b := b) (st := st) l.x.base he hn).mono ?_
    rintro e' w' ⟨rfl, y⟩
    exact ⟨rfl, l.turn y⟩
  have HST : Hid (∀ W : World, (W.alloc (.cells (cv zc) 76)).heap[W.heap.size]? = some (.cells (cv zc) 76 (0, 0))) := hst77
  have i0 : (0 : Int) ≤ (i : Int) := by omega
  have i1 : (i : Int) < (h.es.length : Int) := by omega
  have k0 := LX.x.c0
  have hc32 : c.dig.length = 32 ∧ c.ck.length = 32 ∧ Rc32 c.rc := dec_len hdc
  have e32 := x.e i e he
  have hcz : (cvL c).toArray.size = 131 := by rw [List.size_toArray]; exact cvL_length hc32.1 hc32.2.1 hc32.2.2
  obtain ⟨fs5, hum5⟩ := und75
  have hi75 : (Tryz.prog.info? 74).map (·.size) = some (evL e.kind e.dig e.ck).length := by rw [info75, evL_length e32.d e32.c]
  have hi75c : (Tryz.prog.info? 74).map (·.size) = some (evL c.kind c.dig c.ck).length := by rw [info75, evL_length hc32.1 hc32.2.1]
  have hi77 : (Tryz.prog.info? 76).map (·.size) = some (cvL c).length := by rw [info77, cvL_length hc32.1 hc32.2.1 hc32.2.2]
  have CD : Hid (∀ W', LK w b h h.es st 76 (cv zc) (W.heap.size + 1) W' → Calls Tryz.prog 53 #[.string (M.bs s.text)] W' fun e' w' => e' = .returned (.tuple #[.agg (cvL c).toArray, .bool true]) ∧ LK w b h h.es st 76 (cv zc) (W.heap.size + 1) w') := fun W' l => by
    have := CD1 W' l
    rw [hdc] at this
    exact this
  have HRC : Hid (∀ W' : World, (W'.alloc (.cells (cvL c).toArray 76)).drew.rangeAt W'.heap.size 0 (evL c.kind c.dig c.ck) ∧ (W'.alloc (.cells (cvL c).toArray 76)).rangeAt W'.heap.size 0 (cvL c)) := fun W' =>
    ⟨range_part (C := (cvL c).toArray) (T := 76) (heap_alloc_new _ _) [] (evL c.kind c.dig c.ck) (.string (M.bs c.blob) :: rvL c.rc) 0 (by simp [cvL]) rfl, range_part (C := (cvL c).toArray) (T := 76) (heap_alloc_new _ _) [] (cvL c) [] 0 (by simp) rfl⟩
  have hEQ : ∀ W, (Op.equalIn 10000 74 (.agg (evL c.kind c.dig c.ck).toArray) (.agg (evL e.kind e.dig e.ck).toArray)).run Tryz.prog W = .ok true W := fun W => by
    have := eqEv c.kind e.kind c.dig e.dig c.ck e.ck hc32.1 e32.d hc32.2.1 e32.c W
    rw [decide_eq_true heq] at this
    exact this
  clear x hf L0 ho CD1 hdc hs heq
  go_enter Tryz.func34, Tryz.ntmps34
  go_wp2_with fail
  refine wp_region_noPanic ?_
  refine wp_region_held_drew (S := (fun W' => (W'.cell? ⟨b.hv, 3, none⟩ = some (.map (some b.mp)) ∧ PW W' b.mp h.es) ∧ W'.rangeAt W.heap.size 0 (nmL k d))) (by kernel_rfl) (KP.out) (fun hHeld => ?_)
  refine wpAnyH_take (i := 0) rfl (by kernel_rfl) (by kernel_rfl) (by kernel_rfl) (fun _ _ _ h => h) (yi_move (by kernel_rfl) rfl rfl) (by assumption) ?_
  simp only [Act.put, List.getElem_toArray, List.getElem_cons_succ, List.getElem_cons_zero, List.setIfInBounds_toArray, List.set_cons_zero, List.set_cons_succ]
  refine wpAnyH_take (i := 1) (v := ?_) rfl (by kernel_rfl) (by kernel_rfl) (by kernel_rfl) (fun _ _ _ h => h) (Or.inl ⟨by kernel_rfl, ?_⟩) (by assumption) ?_
  rotate_left
  · (intro w hSw; (try dsimp only at hSw); go_simp; (try with_reducible rfl))
  simp only [Act.put, List.getElem_toArray, List.getElem_cons_succ, List.getElem_cons_zero, List.setIfInBounds_toArray, List.set_cons_zero, List.set_cons_succ]
  refine wpAnyH_take (i := 2) (v := ?_) rfl (by kernel_rfl) (by kernel_rfl) (by kernel_rfl) (fun _ _ _ h => h) (Or.inl ⟨by kernel_rfl, ?_⟩) (by assumption) ?_
  rotate_left
  · (intro w hSw; (try dsimp only at hSw); go_simp; (try with_reducible rfl))
  simp only [Act.put, List.getElem_toArray, List.getElem_cons_succ, List.getElem_cons_zero, List.setIfInBounds_toArray, List.set_cons_zero, List.set_cons_succ]
  refine wpAnyH_take (i := 3) (v := ?_) rfl (by kernel_rfl) (by kernel_rfl) (by kernel_rfl) (fun _ _ _ h => h) (Or.inl ⟨by kernel_rfl, ?_⟩) (by assumption) ?_
  rotate_left
  · (intro w hSw; (try dsimp only at hSw); go_simp; (try with_reducible rfl))
  simp only [Act.put, List.getElem_toArray, List.getElem_cons_succ, List.getElem_cons_zero, List.setIfInBounds_toArray, List.set_cons_zero, List.set_cons_succ]
  refine wpAnyH_take (i := 4) (v := .agg (List.toArray (nmL k d))) rfl (by kernel_rfl) (by kernel_rfl) (by kernel_rfl) (fun _ _ _ h => h) (yieldsIf_load_mid (by kernel_rfl) _ (.tmp 3) (by kernel_rfl) W.heap.size 0 (by kernel_rfl) (nmL k d) _ (fun W hW => hW.2) hum3 rfl hi73) (by assumption) ?_
  simp only [Act.put, List.getElem_toArray, List.getElem_cons_succ, List.getElem_cons_zero, List.setIfInBounds_toArray, List.set_cons_zero, List.set_cons_succ]
  refine wpAnyH_take (i := 5) (v := .tuple #[.int .i64 (i : Int), .bool true]) rfl (by kernel_rfl) (by kernel_rfl) (by kernel_rfl) (fun _ _ _ h => h) (yi_lookup (by kernel_rfl) rfl (.map (some b.mp)) (.agg (nmv k d)) (by rfl) (by rfl) (fun w hSw => HLK.out w hSw.1.2)) (by assumption) ?_
  simp only [Act.put, List.getElem_toArray, List.getElem_cons_succ, List.getElem_cons_zero, List.setIfInBounds_toArray, List.set_cons_zero, List.set_cons_succ]
  refine wpAnyH_take (i := 6) (v := ?_) rfl (by kernel_rfl) (by kernel_rfl) (by kernel_rfl) (fun _ _ _ h => h) (Or.inl ⟨by kernel_rfl, ?_⟩) (by assumption) ?_
  rotate_left
  · (intro w hSw; (try dsimp only at hSw); go_simp; (try with_reducible rfl))
  simp only [Act.put, List.getElem_toArray, List.getElem_cons_succ, List.getElem_cons_zero, List.setIfInBounds_toArray, List.set_cons_zero, List.set_cons_succ]
  refine wpAnyH_take (i := 7) (v := ?_) rfl (by kernel_rfl) (by kernel_rfl) (by kernel_rfl) (fun _ _ _ h => h) (Or.inl ⟨by kernel_rfl, ?_⟩) (by assumption) ?_
  rotate_left
  · (intro w hSw; (try dsimp only at hSw); go_simp; (try with_reducible rfl))
  simp only [Act.put, List.getElem_toArray, List.getElem_cons_succ, List.getElem_cons_zero, List.setIfInBounds_toArray, List.set_cons_zero, List.set_cons_succ]
  refine wpAnyH_take (i := 8) (v := ?_) rfl (by kernel_rfl) (by kernel_rfl) (by kernel_rfl) (fun _ _ _ h => h) (Or.inl ⟨by kernel_rfl, ?_⟩) (by assumption) ?_
  rotate_left
  · (intro w hSw; (try dsimp only at hSw); go_simp; (try with_reducible rfl))
  simp only [Act.put, List.getElem_toArray, List.getElem_cons_succ, List.getElem_cons_zero, List.setIfInBounds_toArray, List.set_cons_zero, List.set_cons_succ]
  refine wpAnyH_take (i := 9) (v := ?_) rfl (by kernel_rfl) (by kernel_rfl) (by kernel_rfl) (fun _ _ _ h => h) (Or.inl ⟨by kernel_rfl, ?_⟩) (by assumption) ?_
  rotate_left
  · (intro w hSw; (try dsimp only at hSw); go_simp; (try with_reducible rfl))
  simp only [Act.put, List.getElem_toArray, List.getElem_cons_succ, List.getElem_cons_zero, List.setIfInBounds_toArray, List.set_cons_zero, List.set_cons_succ]
  refine wpAnyH_take (i := 10) (v := ?_) rfl (by kernel_rfl) (by kernel_rfl) (by kernel_rfl) (fun _ _ _ h => h) (Or.inl ⟨by kernel_rfl, ?_⟩) (by assumption) ?_
  rotate_left
  · (intro w hSw; (try dsimp only at hSw); go_simp; (try with_reducible rfl))
  simp only [Act.put, List.getElem_toArray, List.getElem_cons_succ, List.getElem_cons_zero, List.setIfInBounds_toArray, List.set_cons_zero, List.set_cons_succ]
  refine wpAnyH_done (by kernel_rfl) ?_ _
  refine NoPanic.normal ?_
  clear hHeld HLK KP
  go_wp2_with (first
    | (go_at_call 46; refine (CR.out _ LX).mono ?_; clear CR LX k0; rintro e' w2 ⟨rfl, LX⟩)
    | (go_at_call 53; refine (CD.out _ LX).mono ?_; clear CD LX; rintro e' w3 ⟨rfl, LX⟩)
    | (refine wpList_store_row rfl 76 _ _ rfl w3.heap.size (cvL c).toArray rfl rfl 76 (cv zc) (HST.out w3) (by rw [hcz]; exact info77) (by rw [hzs, hcz]) (all_oneCell_toArray (cvL_one c)) ?_; clear HST; rw [World.setRow_alloc_new]))
  have LX0 := LX
  replace LX := (LX.alloc (.cells (cvL c).toArray 76)).drew
  have X8 : True := trivial
  have KP8 : _ ∧ _ ∧ _ := ⟨LX.x.c2, (HRC.out w3).1, LX.x.rngE he⟩
  have hq3 : w3.heap.size ≠ W.heap.size + 1 := fun e => by
    have := lt_of_heap LX0.c
    omega
  refine wp_region_noPanic ?_
  refine wp_region_held_drew (S := (fun W' => W'.cell? ⟨b.hv, 2, none⟩ = some (.slice (some ⟨b.sl, 0, none⟩) h.es.length h.es.length) ∧ W'.rangeAt w3.heap.size 0 (evL c.kind c.dig c.ck) ∧ W'.rangeAt b.sl (i * 66) (evL e.kind e.dig e.ck))) (by kernel_rfl) (KP8) (fun hHeld => ?_)
  refine wpAnyH_take (i := 0) rfl (by kernel_rfl) (by kernel_rfl) (by kernel_rfl) (fun _ _ _ h => h) (yi_move (by kernel_rfl) rfl rfl) (by assumption) ?_
  simp only [Act.put, List.getElem_toArray, List.getElem_cons_succ, List.getElem_cons_zero, List.setIfInBounds_toArray, List.set_cons_zero, List.set_cons_succ]
  refine wpAnyH_take (i := 1) (v := ?_) rfl (by kernel_rfl) (by kernel_rfl) (by kernel_rfl) (fun _ _ _ h => h) (Or.inl ⟨by kernel_rfl, ?_⟩) (by assumption) ?_
  rotate_left
  · (intro w hSw; (try dsimp only at hSw); go_simp; (try with_reducible rfl))
  simp only [Act.put, List.getElem_toArray, List.getElem_cons_succ, List.getElem_cons_zero, List.setIfInBounds_toArray, List.set_cons_zero, List.set_cons_succ]
  refine wpAnyH_take (i := 2) rfl (by kernel_rfl) (by kernel_rfl) (by kernel_rfl) (fun _ _ _ h => h) (yi_move (by kernel_rfl) rfl rfl) (by assumption) ?_
  simp only [Act.put, List.getElem_toArray, List.getElem_cons_succ, List.getElem_cons_zero, List.setIfInBounds_toArray, List.set_cons_zero, List.set_cons_succ]
  refine wpAnyH_take (i := 3) (v := ?_) rfl (by kernel_rfl) (by kernel_rfl) (by kernel_rfl) (fun _ _ _ h => h) (Or.inl ⟨by kernel_rfl, ?_⟩) (by assumption) ?_
  rotate_left
  · (intro w hSw; (try dsimp only at hSw); go_simp; (try with_reducible rfl))
  simp only [Act.put, List.getElem_toArray, List.getElem_cons_succ, List.getElem_cons_zero, List.setIfInBounds_toArray, List.set_cons_zero, List.set_cons_succ]
  refine wpAnyH_take (i := 4) (v := .agg (List.toArray (evL c.kind c.dig c.ck))) rfl (by kernel_rfl) (by kernel_rfl) (by kernel_rfl) (fun _ _ _ h => h) (yieldsIf_load_mid (by kernel_rfl) _ (.tmp 44) (by kernel_rfl) w3.heap.size 0 (by kernel_rfl) (evL c.kind c.dig c.ck) _ (fun W hW => hW.2.1) hum5 rfl hi75c) (by assumption) ?_
  simp only [Act.put, List.getElem_toArray, List.getElem_cons_succ, List.getElem_cons_zero, List.setIfInBounds_toArray, List.set_cons_zero, List.set_cons_succ]
  refine wpAnyH_take (i := 5) rfl (by kernel_rfl) (by kernel_rfl) (by kernel_rfl) (fun _ _ _ h => h) (yi_move (by kernel_rfl) rfl rfl) (by assumption) ?_
  simp only [Act.put, List.getElem_toArray, List.getElem_cons_succ, List.getElem_cons_zero, List.setIfInBounds_toArray, List.set_cons_zero, List.set_cons_succ]
  refine wpAnyH_take (i := 6) (v := ?_) rfl (by kernel_rfl) (by kernel_rfl) (by kernel_rfl) (fun _ _ _ h => h) (Or.inl ⟨by kernel_rfl, ?_⟩) (by assumption) ?_
  rotate_left
  · (intro w hSw; (try dsimp only at hSw); go_simp; (try with_reducible rfl))
  simp only [Act.put, List.getElem_toArray, List.getElem_cons_succ, List.getElem_cons_zero, List.setIfInBounds_toArray, List.set_cons_zero, List.set_cons_succ]
  refine wpAnyH_take (i := 7) (v := ?_) rfl (by kernel_rfl) (by kernel_rfl) (by kernel_rfl) (fun _ _ _ h => h) (Or.inl ⟨by kernel_rfl, ?_⟩) (by assumption) ?_
  rotate_left
  · (intro w hSw; (try dsimp only at hSw); go_simp; (try with_reducible rfl))
  simp only [Act.put, List.getElem_toArray, List.getElem_cons_succ, List.getElem_cons_zero, List.setIfInBounds_toArray, List.set_cons_zero, List.set_cons_succ]
  refine wpAnyH_take (i := 8) (v := ?_) rfl (by kernel_rfl) (by kernel_rfl) (by kernel_rfl) (fun _ _ _ h => h) (Or.inl ⟨by kernel_rfl, ?_⟩) (by assumption) ?_
  rotate_left
  · (intro w hSw; (try dsimp only at hSw); go_simp; (try with_reducible rfl))
  simp only [Act.put, List.getElem_toArray, List.getElem_cons_succ, List.getElem_cons_zero, List.setIfInBounds_toArray, List.set_cons_zero, List.set_cons_succ]
  refine wpAnyH_take (i := 9) rfl (by kernel_rfl) (by kernel_rfl) (by kernel_rfl) (fun _ _ _ h => h) (yi_move (by kernel_rfl) rfl rfl) (by assumption) ?_
  simp only [Act.put, List.getElem_toArray, List.getElem_cons_succ, List.getElem_cons_zero, List.setIfInBounds_toArray, List.set_cons_zero, List.set_cons_succ]
  refine wpAnyH_take (i := 10) (v := ?_) rfl (by kernel_rfl) (by kernel_rfl) (by kernel_rfl) (fun _ _ _ h => h) (Or.inl ⟨by kernel_rfl, ?_⟩) (by assumption) ?_
  rotate_left
  · (intro w hSw; (try dsimp only at hSw); go_simp; (try with_reducible rfl))
  simp only [Act.put, List.getElem_toArray, List.getElem_cons_succ, List.getElem_cons_zero, List.setIfInBounds_toArray, List.set_cons_zero, List.set_cons_succ]
  refine wpAnyH_take (i := 11) (v := ?_) rfl (by kernel_rfl) (by kernel_rfl) (by kernel_rfl) (fun _ _ _ h => h) (Or.inl ⟨by kernel_rfl, ?_⟩) (by assumption) ?_
  rotate_left
  · (intro w hSw; (try dsimp only at hSw); go_simp; (try with_reducible rfl))
  simp only [Act.put, List.getElem_toArray, List.getElem_cons_succ, List.getElem_cons_zero, List.setIfInBounds_toArray, List.set_cons_zero, List.set_cons_succ]
  refine wpAnyH_take (i := 12) (v := .agg (List.toArray (evL e.kind e.dig e.ck))) rfl (by kernel_rfl) (by kernel_rfl) (by kernel_rfl) (fun _ _ _ h => h) (yieldsIf_load_mid (by kernel_rfl) _ (.tmp 52) (by kernel_rfl) b.sl (i * 66) (by kernel_rfl) (evL e.kind e.dig e.ck) _ (fun W hW => hW.2.2) hum5 rfl hi75) (by assumption) ?_
  simp only [Act.put, List.getElem_toArray, List.getElem_cons_succ, List.getElem_cons_zero, List.setIfInBounds_toArray, List.set_cons_zero, List.set_cons_succ]
  refine wpAnyH_take (i := 13) (v := ?_) rfl (by kernel_rfl) (by kernel_rfl) (by kernel_rfl) (fun _ _ _ h => h) (Or.inl ⟨by kernel_rfl, ?_⟩) (by assumption) ?_
  rotate_left
  · (intro w hSw; (try dsimp only at hSw); go_simp; (try with_reducible rfl))
  simp only [Act.put, List.getElem_toArray, List.getElem_cons_succ, List.getElem_cons_zero, List.setIfInBounds_toArray, List.set_cons_zero, List.set_cons_succ]
  refine wpAnyH_take (i := 14) (v := ?_) rfl (by kernel_rfl) (by kernel_rfl) (by kernel_rfl) (fun _ _ _ h => h) (Or.inl ⟨by kernel_rfl, ?_⟩) (by assumption) ?_
  rotate_left
  · (intro w hSw; (try dsimp only at hSw); go_simp; (try with_reducible rfl))
  simp only [Act.put, List.getElem_toArray, List.getElem_cons_succ, List.getElem_cons_zero, List.setIfInBounds_toArray, List.set_cons_zero, List.set_cons_succ]
  refine wpAnyH_done (by kernel_rfl) ?_ _
  refine NoPanic.normal ?_
  clear hHeld KP8 hEQ CDR
  go_wp2_with fail
  replace LX := LX.drew
  have X11 : True := trivial
  have KP11 : _ := (HRC.out w3).2
  have X12 : True := trivial
  have KP12 := range_setRow (g := W.heap.size + 1) (D := (cvL c).toArray) KP11 hq3
  refine wp_region_noPanic ?_
  refine wp_region_held_drew (S := (fun W' => W'.rangeAt w3.heap.size 0 (cvL c))) (by kernel_rfl) (KP11) (fun hHeld => ?_)
  refine wpAnyH_take (i := 0) rfl (by kernel_rfl) (by kernel_rfl) (by kernel_rfl) (fun _ _ _ h => h) (yi_move (by kernel_rfl) rfl rfl) (by assumption) ?_
  simp only [Act.put, List.getElem_toArray, List.getElem_cons_succ, List.getElem_cons_zero, List.setIfInBounds_toArray, List.set_cons_zero, List.set_cons_succ]
  refine wpAnyH_take (i := 1) (v := .agg (List.toArray (cvL c))) rfl (by kernel_rfl) (by kernel_rfl) (by kernel_rfl) (fun _ _ _ h => h) (yieldsIf_load_mid (by kernel_rfl) _ (.tmp 11) (by kernel_rfl) w3.heap.size 0 (by kernel_rfl) (cvL c) _ (fun W hW => hW) hum7 rfl hi77) (by assumption) ?_
  simp only [Act.put, List.getElem_toArray, List.getElem_cons_succ, List.getElem_cons_zero, List.setIfInBounds_toArray, List.set_cons_zero, List.set_cons_succ]
  refine wpAnyH_take (i := 2) rfl (by kernel_rfl) (by kernel_rfl) (by kernel_rfl) (fun _ _ _ h => h) (yi_assign (by kernel_rfl) rfl rfl) (by assumption) ?_
  simp only [Act.put, List.getElem_toArray, List.getElem_cons_succ, List.getElem_cons_zero, List.setIfInBounds_toArray, List.set_cons_zero, List.set_cons_succ]
  refine wpAnyH_ready (rs := [3]) (by kernel_rfl) (by simp) ?_
  refine AllReadyH.cons (o := _) rfl (fun K hK => ?_) AllReadyH.nil
  refine stepv_store_row rfl 76 _ _ rfl (W.heap.size + 1) (cvL c).toArray (by rfl) (by rfl) 76 (cv zc) LX.c (by rw [hcz]; exact info77) (by rw [hzs, hcz]) (all_oneCell_toArray (cvL_one c)) (hK.out _ _ KP12 (fun hHeld => ?_))
  clear hK K
  (try simp only [Act.put, List.getElem_toArray, List.getElem_cons_succ, List.getElem_cons_zero, List.setIfInBounds_toArray, List.set_cons_zero, List.set_cons_succ])
  refine wpAnyH_take (i := 4) rfl (by kernel_rfl) (by kernel_rfl) (by kernel_rfl) (fun _ _ _ h => h) (yi_assign (by kernel_rfl) rfl rfl) (by assumption) ?_
  simp only [Act.put, List.getElem_toArray, List.getElem_cons_succ, List.getElem_cons_zero, List.setIfInBounds_toArray, List.set_cons_zero, List.set_cons_succ]
  refine wpAnyH_done (by kernel_rfl) ?_ _
  refine NoPanic.normal ?_
  go_wp2_with fail
  (try simp only [Exit.inBlock, Exit.then])
  refine bodyPost_ret (results_midV rfl _ _ _ 76 (cvL c).toArray (0, 0) _ rfl (setRow_heap _ _ _ _ _ _ LX.c) hum7 rfl (by rw [hcz]; exact info77)) rfl ?_
  exact ⟨rfl, (LX.put (cvL c).toArray).x⟩
end Go.Proofs.YtlkllcnnnndllaaGreatDoor
