/- What a store's ask, Blob, Len and Sync do. -/
import Derived.Test.YtlkllcnnnndllaaGreatDoorN5
namespace Go.Proofs.YtlkllcnnnndllaaGreatDoor
open Go.RowKit Go.Maps
set_option linter.unusedVariables false
set_option linter.unusedSimpArgs false
attribute [local go_sem ↓] zero77
attribute [local go_sem ↓] zero27

theorem hst77' (W : World) : (W.alloc (.cells (cv zc) 76)).heap[W.heap.size]? = some (.cells (cv zc) 76 (0, 0)) := heap_alloc_new _ _
set_option maxRecDepth 8000 in
set_option maxHeartbeats 1000000 in
/-- what isn't there -/
theorem ask_no {w W : World} {b : HB} {h h' : Hv} {st : H.Sh} (x : HW w b h st W) (k d : List UInt8) (hd : d.length = 32)
    (CL0 : ∀ W', HW W' b h st W' → Calls Tryz.prog 34 #[.pointer (some ⟨b.hv, 0, none⟩), .agg (nmv k d)] W' fun e' w' => e' = .returned (.tuple #[.int .i64 0, .agg (cv zc), .bool false]) ∧ HW W' b h' st w') :
    Calls Tryz.prog 30 #[.pointer (some ⟨b.hv, 0, none⟩), .agg (nmv k d)] W fun e' w' => e' = .returned (.tuple #[.agg (cv zc), .bool false]) ∧ HW w b h' st w' := by
  obtain ⟨fs3, hum3⟩ := und73
  obtain ⟨fs7, hum7⟩ := und77
  have hzs := zc_size
  have h1 := cv_one zc
  have hns := nmv_size (k := k) hd
  have hmW : ¬ b.mem (W.heap.size + 1) := fun hm => by have := HX.lt x hm; omega
  have hwW : w.heap.size ≤ W.heap.size + 1 := by have := x.o.size; omega
  have LX : LK w b h h.es st 76 (cv zc) (W.heap.size + 1) ((W.alloc (.cells (nmv k d) 72)).alloc (.cells (cv zc) 76)) := ⟨((HX.alloc x _).alloc _), new2 _ _ _, hmW, hwW, by have := x.g.z; omega⟩
  have HN : Hid (((W.alloc (.cells (nmv k d) 72)).alloc (.cells (cv zc) 76)).heap[W.heap.size]? = some (.cells (nmv k d) 72 (0, 0))) := by show _ = _; rw [Below.heap_alloc _ _ _ (by simp)]; exact heap_alloc_new _ _
  have CL : Hid (∀ W', LK w b h h.es st 76 (cv zc) (W.heap.size + 1) W' → Calls Tryz.prog 34 #[.pointer (some ⟨b.hv, 0, none⟩), .agg (nmv k d)] W' fun e' w' => e' = .returned (.tuple #[.int .i64 0, .agg (cv zc), .bool false]) ∧ LK w b h' h'.es st 76 (cv zc) (W.heap.size + 1) w') := fun W' l => by
    refine (CL0 W' l.x.base).mono ?_
    rintro e' w' ⟨rfl, y⟩
    exact ⟨rfl, l.turn y⟩
  have HST : Hid (∀ W : World, (W.alloc (.cells (cv zc) 76)).heap[W.heap.size]? = some (.cells (cv zc) 76 (0, 0))) := hst77'
  clear x CL0
  generalize nmv k d = NM at *
  go_enter Tryz.func30, Tryz.ntmps30
  go_wp2_with (first
    | (refine wpList_load_row rfl 72 _ rfl W.heap.size rfl 72 NM (0, 0) _ HN.out hum3 rfl (by rw [hns]; exact info73) ?_; clear HN)
    | (go_at_call 34; refine (CL.out _ LX).mono ?_; clear CL LX; rintro e' w2 ⟨rfl, LX⟩)
    | (refine wpList_store_row rfl 76 _ _ rfl w2.heap.size (cv zc) rfl rfl 76 (cv zc) (HST.out w2) (by rw [hzs]; exact info77) rfl h1 ?_; rw [World.setRow_alloc_new]; replace LX := LX.alloc (.cells (cv zc) 76); have hR := HST.out w2; clear HST)
    | (refine wpList_load_row rfl 76 _ rfl w2.heap.size rfl 76 (cv zc) (0, 0) _ hR hum7 rfl (by rw [hzs]; exact info77) ?_)
    | (refine wpList_store_row rfl 76 _ _ rfl (W.heap.size + 1) (cv zc) rfl rfl 76 (cv zc) LX.c (by rw [hzs]; exact info77) rfl h1 ?_))
  (try simp only [Exit.inBlock, Exit.then])
  refine bodyPost_ret (results2_rowV rfl _ _ _ 76 (cv zc) (0, 0) _ rfl (setRow_heap _ _ _ _ _ _ LX.c) hum7 rfl (by rw [hzs]; exact info77)) rfl ?_
  exact ⟨rfl, (LX.put (cv zc)).x⟩
set_option maxRecDepth 8000 in
set_option maxHeartbeats 1000000 in
/-- what is there: it is used -/
theorem ask_yes {w W : World} {b : HB} {h : Hv} {st : H.Sh} (x : HW w b h st W) (k d : List UInt8) (hd : d.length = 32) {i : Nat} {e : V.En} {c : V.Ct} (he : h.es[i]? = some e) (hn : h.es.length ≤ 128) (hu : h.uses ≤ 1000000) (hc : c.dig.length = 32 ∧ c.ck.length = 32 ∧ Rc32 c.rc)
    (CL0 : ∀ W', HW W' b h st W' → Calls Tryz.prog 34 #[.pointer (some ⟨b.hv, 0, none⟩), .agg (nmv k d)] W' fun e' w' => e' = .returned (.tuple #[.int .i64 (i : Int), .agg (cv c), .bool true]) ∧ HW W' b h st w') :
    Calls Tryz.prog 30 #[.pointer (some ⟨b.hv, 0, none⟩), .agg (nmv k d)] W fun e' w' => e' = .returned (.tuple #[.agg (cv c), .bool true]) ∧ HW w b (useV h i e) st w' := by
  obtain ⟨fs3, hum3⟩ := und73
  obtain ⟨fs7, hum7⟩ := und77
  have hzs := zc_size
  have hcs := cv_size hc.1 hc.2.1 hc.2.2
  have h1 := cv_one c
  have hns := nmv_size (k := k) hd
  have hmW : ¬ b.mem (W.heap.size + 1) := fun hm => by have := HX.lt x hm; omega
  have hwW : w.heap.size ≤ W.heap.size + 1 := by have := x.o.size; omega
  have LX : LK w b h h.es st 76 (cv zc) (W.heap.size + 1) ((W.alloc (.cells (nmv k d) 72)).alloc (.cells (cv zc) 76)) := ⟨((HX.alloc x _).alloc _), new2 _ _ _, hmW, hwW, by have := x.g.z; omega⟩
  have HN : Hid (((W.alloc (.cells (nmv k d) 72)).alloc (.cells (cv zc) 76)).heap[W.heap.size]? = some (.cells (nmv k d) 72 (0, 0))) := by show _ = _; rw [Below.heap_alloc _ _ _ (by simp)]; exact heap_alloc_new _ _
  have CL : Hid (∀ W', LK w b h h.es st 76 (cv zc) (W.heap.size + 1) W' → Calls Tryz.prog 34 #[.pointer (some ⟨b.hv, 0, none⟩), .agg (nmv k d)] W' fun e' w' => e' = .returned (.tuple #[.int .i64 (i : Int), .agg (cv c), .bool true]) ∧ LK w b h h.es st 76 (cv zc) (W.heap.size + 1) w') := fun W' l => by
    refine (CL0 W' l.x.base).mono ?_
    rintro e' w' ⟨rfl, y⟩
    exact ⟨rfl, l.turn y⟩
  have CU : Hid (∀ W' : World, LK w b h h.es st 76 (cv zc) (W.heap.size + 1) W' → Calls Tryz.prog 36 #[.pointer (some ⟨b.hv, 0, none⟩), .int .i64 (i : Int)] (W'.alloc (.cells (cv c) 76)) fun e' w' => e' = .returned (.tuple #[]) ∧ LK w b (useV h i e) (useV h i e).es st 76 (cv zc) (W.heap.size + 1) w' ∧ w'.heap[W'.heap.size]? = some (.cells (cv c) 76 (0, 0))) := fun W' l => by
    refine (use_x (h := h) (w := W'.alloc (.cells (cv c) 76)) (W := W'.alloc (.cells (cv c) 76)) (b := b) (st := st) (l.alloc _).x.base he hu hn).mono ?_
    rintro e' w' ⟨rfl, y⟩
    exact ⟨rfl, (l.alloc _).turn y, by rw [y.o.block _ (by simp) (fun hm => by have := l.x.lt hm; omega)]; exact heap_alloc_new _ _⟩
  have HST : Hid (∀ W : World, (W.alloc (.cells (cv zc) 76)).heap[W.heap.size]? = some (.cells (cv zc) 76 (0, 0))) := hst77'
  clear x CL0 hc he
  generalize nmv k d = NM at *
  generalize cv c = CC at *
  go_enter Tryz.func30, Tryz.ntmps30
  go_wp2_with (first
    | (refine wpList_load_row rfl 72 _ rfl W.heap.size rfl 72 NM (0, 0) _ HN.out hum3 rfl (by rw [hns]; exact info73) ?_; clear HN)
    | (go_at_call 34; refine (CL.out _ LX).mono ?_; clear CL LX; rintro e' w2 ⟨rfl, LX⟩)
    | (refine wpList_store_row rfl 76 _ _ rfl w2.heap.size CC rfl rfl 76 (cv zc) (HST.out w2) (by rw [hcs]; exact info77) (by rw [hzs, hcs]) h1 ?_; rw [World.setRow_alloc_new]; clear HST)
    | (go_at_call 36; refine (CU.out _ LX).mono ?_; clear CU LX; rintro e' w3 ⟨rfl, LX, hR⟩)
    | (refine wpList_load_row rfl 76 _ rfl w2.heap.size rfl 76 CC (0, 0) _ hR hum7 rfl (by rw [hcs]; exact info77) ?_)
    | (refine wpList_store_row rfl 76 _ _ rfl (W.heap.size + 1) CC rfl rfl 76 (cv zc) LX.c (by rw [hcs]; exact info77) (by rw [hzs, hcs]) h1 ?_))
  (try simp only [Exit.inBlock, Exit.then])
  refine bodyPost_ret (results2_rowV rfl _ _ _ 76 CC (0, 0) _ rfl (setRow_heap _ _ _ _ _ _ LX.c) hum7 rfl (by rw [hcs]; exact info77)) rfl ?_
  exact ⟨rfl, (LX.put CC).x⟩

theorem cv_65 {c : V.Ct} (hd : c.dig.length = 32) (hc : c.ck.length = 32) : (cv c)[65]? = some (.string (M.bs c.blob)) := by
  unfold cv cvL
  rw [List.getElem?_toArray, List.getElem?_append_right (by rw [evL_length hd hc]; exact Nat.le_refl _)]
  simp [evL_length hd hc]
theorem Blob_nil (d : List UInt8) (W : World) : Calls Tryz.prog 17 #[.pointer none, .agg (dg d)] W fun e w' => e = .returned (.tuple #[.string ⟨#[]⟩, .bool false]) ∧ Below W.heap.size W w' := by
  have HB : Hid (Below W.heap.size W (W.alloc (.cells (dg d) 39))) := (Below.refl _ W).alloc (Nat.le_refl _) _
  go_enter Tryz.func17, Tryz.ntmps17
  go_wp2_with fail
  go_ret2
  exact ⟨rfl, HB.out⟩
set_option maxRecDepth 8000 in
set_option maxHeartbeats 1000000 in
/-- Blob, given what ask answers -/
theorem Blob_x {w W : World} {b : HB} {h h' : Hv} {st : H.Sh} (x : HW w b h st W) (d : List UInt8) (hd : d.length = 32) (c : V.Ct) (q : Bool) (hcs : (cv c).size = 131) (h65 : (cv c)[65]? = some (.string (M.bs c.blob)))
    (CA0 : ∀ W', HW w b h st W' → Calls Tryz.prog 30 #[.pointer (some ⟨b.hv, 0, none⟩), .agg (nmv V.kb d)] W' fun e' w' => e' = .returned (.tuple #[.agg (cv c), .bool q]) ∧ HW w b h' st w') :
    Calls Tryz.prog 17 #[.pointer (some ⟨b.hv, 0, none⟩), .agg (dg d)] W fun e' w' => e' = .returned (.tuple #[.string (M.bs c.blob), .bool q]) ∧ HW w b h' st w' := by
  have hzs := zc_size
  have h1 := cv_one c
  have hDs : (dg d).size = 32 := by rw [dg_size, hd]
  have XX : Hid (HW w b h st (W.alloc (.cells (dg d) 39))) := HX.alloc x _
  have HN : Hid ((W.alloc (.cells (dg d) 39)).heap[W.heap.size]? = some (.cells (dg d) 39 (0, 0))) := heap_alloc_new _ _
  have CA : Hid (∀ W', HW w b h st W' → Calls Tryz.prog 30 #[.pointer (some ⟨b.hv, 0, none⟩), .agg (nmv V.kb d)] W' fun e' w' => e' = .returned (.tuple #[.agg (cv c), .bool q]) ∧ HW w b h' st w') := CA0
  have HB73 : Hid (∀ w, (Instr.build 72 #[(0, .string (M.bs V.kb)), (1, .agg (dg d))]).run Tryz.prog w = .ok (.agg (nmv V.kb d)) w) := build73 V.kb d hd
  have HST : Hid (∀ W : World, (W.alloc (.cells (cv zc) 76)).heap[W.heap.size]? = some (.cells (cv zc) 76 (0, 0))) := hst77'
  have HFI : Hid (∀ w2, HW w b h' st w2 → HW w b h' st (w2.alloc (.cells (cv c) 76))) := fun w2 y => HX.alloc y _
  have HCS : Hid ((cv c).size = 131) := hcs
  clear x CA0 hcs
  generalize dg d = DD at *
  generalize nmv V.kb d = NM at *
  generalize cv c = CC at *
  go_enter Tryz.func17, Tryz.ntmps17
  go_wp2_with (first
    | (refine wpList_load_row rfl 39 _ rfl W.heap.size rfl 39 DD (0, 0) _ HN.out und27 rfl (by rw [hDs]; exact info27) ?_; clear HN)
    | (refine wl_build rfl 72 _ rfl _ (by rfl) _ HB73.out ?_; clear HB73)
    | (go_at_call 30; refine (CA.out _ XX.out).mono ?_; clear CA XX; rintro e' w2 ⟨rfl, XX⟩)
    | (refine wpList_store_row rfl 76 _ _ rfl w2.heap.size CC rfl rfl 76 (cv zc) (HST.out w2) (by rw [HCS.out]; exact info77) (by rw [hzs, HCS.out]) h1 ?_; rw [World.setRow_alloc_new]; clear HST))
  go_ret2
  exact ⟨rfl, HFI.out _ XX⟩
theorem LenH_nil (W : World) : Calls Tryz.prog 22 #[.pointer none] W fun e w' => e = .returned (.int .i64 0) ∧ w' = W := by
  go_enter Tryz.func22, Tryz.ntmps22
  go_wp2_with fail
  go_ret
  exact ⟨rfl, rfl⟩
theorem wl_len {P : Program} {ops : Array Oper} {rest : List Oper} {o : Oper} {a : Act} {w : World} {Q : Exit → Act → World → Prop} (hg : o.guard = none) (m : Operand) (t : TypeId) (hop : o.op = Op.call { callee := Callee.builtin Builtin.len, args := #[m], argTypes := #[t] }) (vm v : Value) (hm : a.eval m = vm)
    (hrun : (Builtin.len_ #[t] o.type #[vm]).run P w = .ok v w) (h : wpList P ops Q rest (a.put o.dst v) w) : wpList P ops Q (o :: rest) a w := by
  refine wpList_plain hg fun K' hK' => ?_
  unfold Oper.wp
  simp [execOp, hop, resolve, invoke, builtin, hm, hrun, Result.andThen]
  exact hK' _ _ h
set_option maxRecDepth 8000 in
theorem Len_x {w W : World} {b : HB} {h : Hv} {st : H.Sh} (x : HW w b h st W) : Calls Tryz.prog 22 #[.pointer (some ⟨b.hv, 0, none⟩)] W fun e' w' => e' = .returned (.int .i64 ((V.cntN h.es : Nat) : Int)) ∧ w' = W := by
  have k3 := x.c3
  have HL : Hid _ := fun ty => x.mp.len ty
  clear x
  go_enter Tryz.func22, Tryz.ntmps22
  go_wp2_with (at_len; refine wl_len rfl _ 67 rfl (.map (some b.mp)) _ rfl (HL.out _) ?_)
  go_ret
  exact ⟨rfl, rfl⟩
end Go.Proofs.YtlkllcnnnndllaaGreatDoor
