/- ping, ack; a frame as a slice of one. -/
import Derived.Test.YtebmgajijjhinaaSoF
namespace Go.Proofs.Ytebmgajijjhinaa
open Go.RowKit Go.Maps
set_option linter.unusedVariables false
set_option linter.unusedSimpArgs false

attribute [local go_sem ↓] zero66
attribute [local go_sem ↓] zero56
/-- what lay at a fill's start, then a part -/
theorem foldF (L : List Value) : ∀ (Z : Array Value) (off k : Nat), off + k + L.length ≤ Z.size → (L.zipIdx k).foldl (fun (cs : Array Value) (x : Value × Nat) => cs.setIfInBounds (off + x.2) x.1) Z = (Z.toList.take (off + k) ++ L ++ Z.toList.drop (off + k + L.length)).toArray := by
  induction L with
  | nil => intro Z off k h; simp
  | cons x L ih =>
    intro Z off k h
    rw [List.zipIdx_cons, List.foldl_cons, ih _ _ _ (by simp at h ⊢; omega)]
    congr 1
    simp only [List.length_cons] at h
    have hk : off + k < Z.toList.length := by simp; omega
    have e : off + (k + 1) = off + k + 1 := by omega
    rw [e, Array.toList_setIfInBounds, List.take_add_one, List.getElem?_set_self hk, List.take_set_of_le (Nat.le_refl _), List.drop_set_of_lt (by omega)]
    simp only [List.length_cons, Option.toList_some, List.append_assoc, List.cons_append, List.nil_append]
    rw [show off + k + 1 + L.length = off + k + (L.length + 1) by omega]
theorem fill_all (place : Nat → Option (Nat × Nat)) (Z : Array Value) (v : Value) (L : List Value) (hv : v.cells = L.toArray) (hp : place 0 = some (0, L.length)) (hZ : Z.size = L.length) : Instr.fill place Z [(0, v)] = some L.toArray := by
  rw [Instr.fill, hp]
  simp only [hv, List.size_toArray]
  rw [if_neg (by simp [hZ])]
  have := foldF L Z 0 0 (by omega)
  simp only [Nat.add_zero, Nat.zero_add] at this ⊢
  rw [show L.toArray.zipIdx = (L.zipIdx 0).toArray by simp]
  rw [List.foldl_toArray]
  simp only [Instr.fill]
  rw [this]
  simp [hZ]
/-- a slice literal of one struct -/
theorem wl_bs1 {ops : Array Oper} {rest : List Oper} {o : Oper} {a : Act} {w : World} {Q : Exit → Act → World → Prop} (hg : o.guard = none) (TS T : TypeId) (x : Operand) (ho : o.op = .buildSlice TS 1 #[(0, x)]) (L : List Value) (n bytes : Nat) (z : Value) (hu : Try.prog.underlying TS = some (.slice T)) (hi : (Try.prog.info? T).map (fun i => (i.zero, i.size, i.bytes)) = some (some z, n, bytes)) (hn : L.length = n) (h0 : 0 < n) (h1 : n ≤ 16777216) (hx : a.eval x = .agg L.toArray)
    (h : wpList Try.prog ops Q rest (a.put o.dst (.slice (some ⟨w.heap.size, 0, none⟩) 1 1)) (w.alloc (.cells L.toArray T))) : wpList Try.prog ops Q (o :: rest) a w := by
  obtain ⟨i, hi0, hz, hs, hb⟩ := info_partsT hi
  refine wpList_buildSlice hg TS T 1 #[(0, x)] ho L.toArray i z hu hi0 hz (by rw [hs]; omega) (by rw [hs]; omega) ?_ h
  have hp : ((#[(0, x)] : Array (Nat × Operand)).map fun (i, x) => (i, a.eval x)).toList = [(0, .agg L.toArray)] := by simp [hx]
  rw [hp, hs]
  exact fill_all _ _ _ L rfl (by simp [hn]) (by simp [hn])
/-- a struct built of parts -/
theorem wl_build {P : Program} {ops : Array Oper} {rest : List Oper} {o : Oper} {a : Act} {w : World} {Q : Exit → Act → World → Prop} (hg : o.guard = none) (t : TypeId) (parts : Array (Nat × Operand)) (ho : o.op = .build t parts) (L : List (Nat × Value)) (hp : (parts.map fun (i, x) => (i, a.eval x)).toList = L) (C : Array Value) (hf : P.built t L = some C)
    (h : wpList P ops Q rest (a.put o.dst (.agg C)) w) : wpList P ops Q (o :: rest) a w := by
  subst hp
  exact wpList_build hg t parts ho (by rw [hf]; rfl) (by rw [hf]; exact h)
theorem infoSn3 : ∃ z, (Try.prog.info? tSn).map (fun i => (i.zero, i.size, i.bytes)) = some (some (.agg z), 238, 408) ∧ z.size = 238 := ⟨(snL 0 0 0 0 0 zM nilV).toArray, by kernel_rfl, snL_len zM_len⟩
theorem undSs : Try.prog.underlying 28 = some (.slice tSn) := Try.underlying28
set_option maxRecDepth 8000 in
theorem ping_0 (tt sq : Int) (C D : Array Value) (b1 : Try.prog.built 48 [(0, .int .i64 1), (2, .int .i64 sq)] = some D) (b2 : Try.prog.built 50 [(0, .int .i64 tt), (1, .agg D)] = some C) (hl : C.size = 238) (h1 : C.all (·.oneCell') = true)
    (W : World) : Calls Try.prog 33 #[.int .i64 tt, .int .i64 sq] W fun e w' => e = .returned (.agg C) ∧ Bl W w' := by
  have HA : Hid (∀ o, Bl W (W.alloc o)) := fun o => (Bl.refl W).alloc o
  obtain ⟨fs, hum⟩ := undSn
  go_enter Try.func33, Try.ntmps33
  go_wp2_with (first
    | (refine wl_build rfl 48 _ rfl [(0, .int .i64 1), (2, .int .i64 sq)] (by simp only [List.map_toArray, List.map_cons, List.map_nil]; rfl) D b1 ?_)
    | (refine wl_build rfl 50 _ rfl [(0, .int .i64 tt), (1, .agg D)] (by simp only [List.map_toArray, List.map_cons, List.map_nil]; rfl) C b2 ?_)
    | (refine wpList_store_row rfl tSn _ _ rfl W.heap.size C rfl rfl tSn zSn (heap_alloc_new W _) (by rw [hl]; exact infoSn) (by rw [hl, zSn_size]) h1 ?_))
  (try simp only [Exit.inBlock, Exit.then])
  refine bodyPost_ret (results_cell_row rfl _ _ _ tSn C (0, 0) _ rfl (setRow_heap _ _ _ _ _ _ (heap_alloc_new W _)) hum rfl (by rw [hl]; exact infoSn)) rfl ?_
  exact ⟨rfl, (of1_setRow _ _ _).bl (HA.out _) (Nat.le_refl _)⟩
theorem sn_size (tt k fr sq nd : Int) (rv : Value) : (snL tt k fr sq nd zM rv).toArray.size = 238 := snL_len zM_len
theorem sn_one (tt k fr sq nd : Int) : (snL tt k fr sq nd zM nilV).toArray.all (·.oneCell') = true := all_one (snL_one zM_one rfl)
theorem ping_x (tt sq : Int) (W : World) : Calls Try.prog 33 #[.int .i64 tt, .int .i64 sq] W fun e w' => e = .returned (.agg (snL tt 1 0 sq 0 zM nilV).toArray) ∧ Bl W w' :=
  ping_0 tt sq _ _ (build56a 1 sq) (build66 tt 1 0 sq 0) (sn_size _ _ _ _ _ _) (sn_one _ _ _ _ _) W
set_option maxRecDepth 8000 in
theorem ack_0 (tt sq nd : Int) (C D : Array Value) (b1 : Try.prog.built 48 [(0, .int .i64 2), (2, .int .i64 sq), (3, .int .i64 nd)] = some D) (b2 : Try.prog.built 50 [(0, .int .i64 tt), (1, .agg D)] = some C) (hl : C.size = 238) (h1 : C.all (·.oneCell') = true)
    (W : World) : Calls Try.prog 24 #[.int .i64 tt, .int .i64 sq, .int .i64 nd] W fun e w' => e = .returned (.agg C) ∧ Bl W w' := by
  have HA : Hid (∀ o, Bl W (W.alloc o)) := fun o => (Bl.refl W).alloc o
  obtain ⟨fs, hum⟩ := undSn
  go_enter Try.func24, Try.ntmps24
  go_wp2_with (first
    | (refine wl_build rfl 48 _ rfl [(0, .int .i64 2), (2, .int .i64 sq), (3, .int .i64 nd)] (by simp only [List.map_toArray, List.map_cons, List.map_nil]; rfl) D b1 ?_)
    | (refine wl_build rfl 50 _ rfl [(0, .int .i64 tt), (1, .agg D)] (by simp only [List.map_toArray, List.map_cons, List.map_nil]; rfl) C b2 ?_)
    | (refine wpList_store_row rfl tSn _ _ rfl W.heap.size C rfl rfl tSn zSn (heap_alloc_new W _) (by rw [hl]; exact infoSn) (by rw [hl, zSn_size]) h1 ?_))
  (try simp only [Exit.inBlock, Exit.then])
  refine bodyPost_ret (results_cell_row rfl _ _ _ tSn C (0, 0) _ rfl (setRow_heap _ _ _ _ _ _ (heap_alloc_new W _)) hum rfl (by rw [hl]; exact infoSn)) rfl ?_
  exact ⟨rfl, (of1_setRow _ _ _).bl (HA.out _) (Nat.le_refl _)⟩
theorem ack_x (tt sq nd : Int) (W : World) : Calls Try.prog 24 #[.int .i64 tt, .int .i64 sq, .int .i64 nd] W fun e w' => e = .returned (.agg (snL tt 2 0 sq nd zM nilV).toArray) ∧ Bl W w' :=
  ack_0 tt sq nd _ _ (build56b 2 sq nd) (build66 tt 2 0 sq nd) (sn_size _ _ _ _ _ _) (sn_one _ _ _ _ _) W
end Go.Proofs.Ytebmgajijjhinaa
