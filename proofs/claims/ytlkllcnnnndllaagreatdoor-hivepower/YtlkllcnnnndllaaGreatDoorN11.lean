/- A store's Pin, Free, Sync. -/
import Derived.Test.YtlkllcnnnndllaaGreatDoorN10
namespace Go.Proofs.YtlkllcnnnndllaaGreatDoor
open Go.RowKit Go.Maps
set_option linter.unusedVariables false
set_option linter.unusedSimpArgs false

/-- a store whose set of what is pinned is made anew -/
def HB.pin (b : HB) (p : Nat) : HB := { b with pn := some p }
def pinV (h : Hv) (l : List (List UInt8)) : Hv := { h with pins := l }
theorem OffB.pin {b : HB} {w w' : World} (o : OffB b w w') (hp : b.pn = none) (p : Nat) : OffB (b.pin p) w w' := ⟨o.os, o.tape, o.output, o.size, fun k hk hm => o.block k hk (fun h => hm (by
  rcases h with h | h | h | h | h | h
  · exact .inl h
  · exact .inr (.inl h)
  · exact .inr (.inr (.inl h))
  · exact .inr (.inr (.inr (.inl h)))
  · exact .inr (.inr (.inr (.inr (.inl h))))
  · rw [hp] at h; cases h))⟩
theorem HX.pinNew {w W : World} {b : HB} {h : Hv} {em : List V.En} {st : H.Sh} (x : HX w b h em st W) (hp : b.pn = none) : HX w (b.pin W.heap.size) h em st ((W.alloc (.map #[] 0)).setCell ⟨b.hv, 4, none⟩ (.map (some W.heap.size))) := by
  have k := x.ok
  have y := x.alloc (.map #[] 0)
  have hhv : b.hv < W.heap.size := x.lt (.inr (.inr (.inl rfl)))
  have hmp : b.mp < W.heap.size := x.lt (.inr (.inr (.inr (.inr (.inl rfl)))))
  have z := x.g.z
  have bl : ∀ j, j ≠ b.hv → ((W.alloc (.map #[] 0)).setCell ⟨b.hv, 4, none⟩ (.map (some W.heap.size))).heap[j]? = (W.alloc (.map #[] 0)).heap[j]? := fun j hj => Below.heap_setCell _ _ _ _ hj
  have hpins : h.pins = [] := by have := x.pn; rw [hp] at this; exact this
  refine ⟨(bl b.sh k.n2).trans y.hb, (bl b.sc k.n4).trans y.hc, ?_, (bl b.sl (fun e => k.n6 e.symm)).trans y.hl, y.mp.block (bl _ (x.cells_ne (.inl rfl)).2.2.1), ?_, ?_, ?_, ?_, x.u, x.e, x.n⟩
  · have e1 := heap_setCell_rowH (i := 4) (v := .map (some W.heap.size)) y.hh
    rw [List.setIfInBounds_toArray] at e1
    exact e1
  · rw [hpins]
    exact (PS.made W).block (fun p hp' => bl _ (by cases hp'; omega))
  · exact ⟨k.n1, k.n2, k.n3, k.n4, k.n5, k.n6, (fun e => by have := Option.some.inj e; have h2 : (b.pin W.heap.size).mp = b.mp := rfl; omega), k.g1, k.g2, k.g3, k.g4, k.g5, (fun p e => by have := Option.some.inj e; omega)⟩
  · have o1 : OffB b w (W.alloc (.map #[] 0)) := y.o
    have o2 : OffB b (W.alloc (.map #[] 0)) ((W.alloc (.map #[] 0)).setCell ⟨b.hv, 4, none⟩ (.map (some W.heap.size))) := ⟨rfl, rfl, rfl, by simp [World.setCell], fun j hj hm => bl j (fun e => hm (.inr (.inr (.inl e))))⟩
    exact (o1.trans o2).pin hp _
  · refine x.g.below (B := 2) ?_ (Nat.le_refl _)
    have b1 : Below 2 W (W.alloc (.map #[] 0)) := (Below.refl 2 W).alloc (by omega) _
    exact ⟨b1.os, b1.tape, b1.output, by have := b1.size; simp only [World.setCell, Array.size_modify]; exact this, fun i hi => by rw [bl i (by have := k.g3; omega)]; exact b1.block i hi⟩
/-- the set of what is pinned has turned -/
theorem HX.pinned {w W : World} {b : HB} {h : Hv} {em : List V.En} {st : H.Sh} (x : HX w b h em st W) {p : Nat} (hp : b.pn = some p) {W' : World} {l : List (List UInt8)} (t : W.mapTurned W' p) (q : PS W' (some p) l) : HX w b (pinV h l) em st W' := by
  have g := t.grown
  have ne := x.cells_ne (.inr hp)
  have hmp : b.mp ≠ p := fun e => x.ok.n7 (by rw [hp, e])
  have bl : ∀ j, j < W.heap.size → j ≠ p → W'.heap[j]? = W.heap[j]? := fun j hj hm => g.block j hj (fun e => hm (Option.some.inj e))
  exact x.turn (h' := pinV h l) ⟨g.os, g.tape, g.output, g.size, fun j hj hm => bl j hj (fun e => hm (.inr (.inr (.inr (.inr (.inr (by rw [hp, e])))))))⟩ (by rw [bl _ (x.lt (.inl rfl)) (fun e => ne.1 e.symm)]; exact x.hb) (by rw [bl _ (x.lt (.inr (.inl rfl))) (fun e => ne.2.1 e.symm)]; exact x.hc) (by rw [bl _ (x.lt (.inr (.inr (.inl rfl)))) (fun e => ne.2.2.1 e.symm)]; exact x.hh)
    (by rw [bl _ (x.lt (.inr (.inr (.inr (.inl rfl))))) (fun e => ne.2.2.2 e.symm)]; exact x.hl) (x.mp.block (bl _ (x.lt (.inr (.inr (.inr (.inr (.inl rfl)))))) hmp)) (by rw [hp]; exact q) x.u x.e x.n

set_option maxRecDepth 8000 in
theorem Pin_nil (v : Value) (W : World) : Calls Tryz.prog 23 #[.pointer none, v] W fun e w' => e = .returned (.tuple #[]) ∧ Below W.heap.size W w' := by
  have HB : Hid (Below W.heap.size W W) := Below.refl _ _
  go_enter Tryz.func23, Tryz.ntmps23
  go_wp2_with fail
  refine bodyPost_ret (results_none rfl _ _ _) rfl ?_
  exact ⟨rfl, HB.out⟩
theorem mapNil (p : Nat) (W : World) : (binOp BinOp.eql tPin (.map (some p)) (.map none)).run Tryz.prog W = .ok (.bool false) W := by kernel_rfl
theorem mapNil' (W : World) : (binOp BinOp.eql tPin (.map none) (.map none)).run Tryz.prog W = .ok (.bool true) W := by kernel_rfl
theorem makePin (W : World) : (Instr.makeMap tPin none).run Tryz.prog W = .ok (.map (some W.heap.size)) (W.alloc (.map #[] 0)) := by kernel_rfl
attribute [local go_sem ↓] mapNil mapNil' makePin
theorem b98 (w : World) : (Instr.build 99 #[]).run Tryz.prog w = .ok (.agg #[]) w := by kernel_rfl
theorem zeroDg (W : World) : (zeroValue 39).run Tryz.prog W = .ok (.agg zero32) W := by kernel_rfl

/-- Pin behind its look for a set: p is the set -/
structure PN (w : World) (b : HB) (h : Hv) (st : H.Sh) (q : Nat) (d : List UInt8) (W' : World) : Prop where
  x : HX w b h h.es st W'
  c : W'.heap[q]? = some (.cells (dg d) 39 (0, 0))
  m : ¬ b.mem q

set_option maxRecDepth 8000 in
set_option maxHeartbeats 4000000 in
theorem Pin_some {w W : World} {b : HB} {h : Hv} {st : H.Sh} (x : HW w b h st W) {p : Nat} (hp : b.pn = some p) (d : List UInt8) (hd : d.length = 32) (hl : h.pins.length < 1000000) {q : Nat} (hq : W.heap[q]? = some (.cells (dg d) 39 (0, 0))) (hm : ¬ b.mem q) :
    Calls Tryz.prog 23 #[.pointer (some ⟨b.hv, 0, none⟩), .slice (some ⟨q, 0, none⟩) 1 1] W fun e' w' => e' = .returned (.tuple #[]) ∧ HW w b (pinV h (d :: h.pins)) st w' := by
  have XX : Hid (HW w b h st W) := x
  have k4 : W.cell? ⟨b.hv, 4, none⟩ = some (.map (some p)) := by rw [x.c4, hp]
  have hiD : (Tryz.prog.info? 39).map (·.size) = some (d.map vb).length := by rw [info27, List.length_map, hd]
  have hDs : (dg d).size = 32 := by rw [dg_size, hd]
  have hz3 := zero32_size
  have hD1 := dg_one d
  have HR0 : Hid (W.rangeAt q 0 (d.map vb)) := range_part hq [] (d.map vb) [] 0 (by simp [dg]) rfl
  have HST : Hid (∀ W : World, (W.alloc (.cells zero32 39)).heap[W.heap.size]? = some (.cells zero32 39 (0, 0))) := hst32
  clear x
  go_enter Tryz.func23, Tryz.ntmps23
  go_wp2_with fail
  clear k4
  go_loopw [5, 19] (fun u5 u19 wr => ∃ k : Nat, k ≤ 1 ∧ u19 = .int .i64 k ∧ ((k = 0 ∧ wr = W) ∨ (k = 1 ∧ HW w b (pinV h (d :: h.pins)) st wr))) (fun _ u19 _ => 1 - (intOf u19).toNat)
  case atStart => exact ⟨0, by omega, rfl, .inl ⟨rfl, rfl⟩⟩
  case round =>
    obtain ⟨k, hk, rfl, ⟨rfl, rfl⟩ | ⟨rfl, hx⟩⟩ := hrel
    · have hx := XX.out
      have XD : PN w b h st wr.heap.size d (wr.alloc (.cells (dg d) 39)).drew := ⟨(HX.alloc hx _).drew, heap_alloc_new _ _, fun hh => by have := HX.lt hx hh; omega⟩
      have KP : Hid (∀ {h' : Hv} W', PN w b h' st wr.heap.size d W' → W'.cell? ⟨b.hv, 4, none⟩ = some (.map (some p)) ∧ W'.rangeAt wr.heap.size 0 (d.map vb)) := fun W' y => ⟨by rw [y.x.c4, hp], range_part y.c [] (d.map vb) [] 0 (by simp [dg]) rfl⟩
      have hps : PS (wr.alloc (.cells (dg d) 39)).drew (some p) h.pins := by have := XD.x.pn; rw [hp] at this; exact this
      obtain ⟨W2, hrun, hP, ht⟩ := PS.put hps d hd hl
      have XE : PN w b (pinV h (d :: h.pins)) st wr.heap.size d W2 := ⟨XD.x.pinned hp ht hP, heap_turned ht XD.c, XD.m⟩
      have HN1 : Hid (HW w b (pinV h (d :: h.pins)) st W2) := XE.x
      clear hx XX hps hP ht hq hm
      go_wp2_with (first
        | (refine wpList_load_mid rfl 39 _ rfl q 0 rfl (d.map vb) _ HR0.out und27 rfl hiD ?_; clear HR0)
        | (refine wpList_store_row rfl 39 _ _ rfl wr.heap.size (dg d) rfl rfl 39 zero32 (HST.out wr) (by rw [hDs]; exact info27) (by rw [hz3, hDs]) hD1 ?_; clear HST; rw [World.setRow_alloc_new]))
      refine wp_region_noPanic ?_
      refine wp_region_held_drew (S := (fun W' => W'.cell? ⟨b.hv, 4, none⟩ = some (.map (some p)) ∧ W'.rangeAt wr.heap.size 0 (d.map vb))) (by kernel_rfl) (KP.out _ XD) (fun hHeld => ?_)
      refine wpAnyH_take (i := 0) rfl (by kernel_rfl) (by kernel_rfl) (by kernel_rfl) (fun _ _ _ h => h) (yi_move (by kernel_rfl) rfl rfl) (by assumption) ?_
      simp only [Act.put, List.getElem_toArray, List.getElem_cons_succ, List.getElem_cons_zero, List.setIfInBounds_toArray, List.set_cons_zero, List.set_cons_succ]
      refine wpAnyH_take (i := 1) (v := ?_) rfl (by kernel_rfl) (by kernel_rfl) (by kernel_rfl) (fun _ _ _ h => h) (Or.inl ⟨by kernel_rfl, ?_⟩) (by assumption) ?_
      rotate_left
      · (intro w hSw; (try dsimp only at hSw); go_simp; (try with_reducible rfl))
      simp only [Act.put, List.getElem_toArray, List.getElem_cons_succ, List.getElem_cons_zero, List.setIfInBounds_toArray, List.set_cons_zero, List.set_cons_succ]
      refine wpAnyH_take (i := 2) (v := ?_) rfl (by kernel_rfl) (by kernel_rfl) (by kernel_rfl) (fun _ _ _ h => h) (Or.inl ⟨by kernel_rfl, ?_⟩) (by assumption) ?_
      rotate_left
      · (intro w hSw; (try dsimp only at hSw); go_simp; (try with_reducible rfl))
      simp only [Act.put, List.getElem_toArray, List.getElem_cons_succ, List.getElem_cons_zero, List.setIfInBounds_toArray, List.set_cons_zero, List.set_cons_succ]
      refine wpAnyH_take (i := 3) (v := ?_) rfl (by kernel_rfl) (by kernel_rfl) (by kernel_rfl) (fun _ _ _ h => h) (Or.inl ⟨by kernel_rfl, ?_⟩) (by assumption) ?_
      rotate_left
      · (intro w hSw; (try dsimp only at hSw); go_simp; (try with_reducible rfl))
      simp only [Act.put, List.getElem_toArray, List.getElem_cons_succ, List.getElem_cons_zero, List.setIfInBounds_toArray, List.set_cons_zero, List.set_cons_succ]
      refine wpAnyH_take (i := 4) (v := .agg (List.toArray (d.map vb))) rfl (by kernel_rfl) (by kernel_rfl) (by kernel_rfl) (fun _ _ _ h => h) (yieldsIf_load_mid (by kernel_rfl) _ (.tmp 5) (by kernel_rfl) wr.heap.size 0 (by kernel_rfl) (d.map vb) _ (fun W hW => hW.2) und27 rfl hiD) (by assumption) ?_
      simp only [Act.put, List.getElem_toArray, List.getElem_cons_succ, List.getElem_cons_zero, List.setIfInBounds_toArray, List.set_cons_zero, List.set_cons_succ]
      refine wpAnyH_take (i := 5) (v := .agg #[]) rfl (by kernel_rfl) (by kernel_rfl) (by kernel_rfl) (fun _ _ _ h => h) (yi_build (by kernel_rfl) rfl _ (by rfl) (fun w => b98 _)) (by assumption) ?_
      simp only [Act.put, List.getElem_toArray, List.getElem_cons_succ, List.getElem_cons_zero, List.setIfInBounds_toArray, List.set_cons_zero, List.set_cons_succ]
      refine wpAnyH_ready (rs := [6]) (by kernel_rfl) (by simp) ?_
      refine AllReadyH.cons (o := _) rfl (fun K hK => ?_) AllReadyH.nil
      refine stepv_mapUpdate rfl _ _ _ tPin rfl (.map (some p)) (.agg (dg d)) (.agg #[]) (by rfl) (by rfl) (by rfl) hrun (hK.out _ _ (KP.out _ XE) (fun hHeld => ?_))
      clear hK K
      (try simp only [Act.put, List.getElem_toArray, List.getElem_cons_succ, List.getElem_cons_zero, List.setIfInBounds_toArray, List.set_cons_zero, List.set_cons_succ])
      refine wpAnyH_done (by kernel_rfl) ?_ _
      refine NoPanic.normal ?_
      clear hHeld KP
      go_wp2_with fail
      go_roundw
      case rel => exact ⟨1, by omega, by go_num, .inr ⟨rfl, HN1.out⟩⟩
      case measure => simp [intOf]
    · have HX1 : Hid (HW w b (pinV h (d :: h.pins)) st wr) := hx
      clear hx XX
      go_wp2_with fail
      refine bodyPost_end (results_none rfl _ _ _) rfl ?_
      exact ⟨rfl, HX1.out⟩

set_option maxRecDepth 8000 in
set_option maxHeartbeats 4000000 in
theorem Pin_none {w W : World} {b : HB} {h : Hv} {st : H.Sh} (x : HW w b h st W) (hp : b.pn = none) (d : List UInt8) (hd : d.length = 32) {q : Nat} (hq : W.heap[q]? = some (.cells (dg d) 39 (0, 0))) (hm : ¬ b.mem q) :
    Calls Tryz.prog 23 #[.pointer (some ⟨b.hv, 0, none⟩), .slice (some ⟨q, 0, none⟩) 1 1] W fun e' w' => e' = .returned (.tuple #[]) ∧ HW w (b.pin W.heap.size) (pinV h [d]) st w' := by
  obtain ⟨W0, hW0⟩ : ∃ W0, W0 = W := ⟨_, rfl⟩
  have hpins : h.pins = [] := by have := x.pn; rw [hp] at this; exact this
  have f := x.fh
  have hqb : q ≠ b.hv := fun e => hm (.inr (.inr (.inl e)))
  have hql := lt_of_heap hq
  have fq : ((W.alloc (.map #[] 0)).setCell ⟨b.hv, 4, none⟩ (.map (some W.heap.size))).heap[q]? = some (.cells (dg d) 39 (0, 0)) := by rw [Below.heap_setCell _ _ _ _ hqb, Below.heap_alloc _ _ _ hql]; exact hq
  have XX : Hid (HW w (b.pin W.heap.size) h st ((W.alloc (.map #[] 0)).setCell ⟨b.hv, 4, none⟩ (.map (some W.heap.size)))) := HX.pinNew x hp
  have k4 : W.cell? ⟨b.hv, 4, none⟩ = some (.map none) := by rw [x.c4, hp]
  have f4 : (W.alloc (.map #[] 0)).frozen? ⟨b.hv, 4, none⟩ = false := (HX.alloc x _).fh 4
  have c4 : (W.alloc (.map #[] 0)).cell? ⟨b.hv, 4, none⟩ = some (.map none) := by rw [(HX.alloc x _).c4, hp]
  have hiD : (Tryz.prog.info? 39).map (·.size) = some (d.map vb).length := by rw [info27, List.length_map, hd]
  have hDs : (dg d).size = 32 := by rw [dg_size, hd]
  have hz3 := zero32_size
  have hD1 := dg_one d
  have HR0 : Hid (((W.alloc (.map #[] 0)).setCell ⟨b.hv, 4, none⟩ (.map (some W.heap.size))).rangeAt q 0 (d.map vb)) := range_part fq [] (d.map vb) [] 0 (by simp [dg]) rfl
  have HST : Hid (∀ W : World, (W.alloc (.cells zero32 39)).heap[W.heap.size]? = some (.cells zero32 39 (0, 0))) := hst32
  have hp' : (b.pin W.heap.size).pn = some W.heap.size := rfl
  obtain ⟨b', hb'⟩ : ∃ b', b' = b.pin W.heap.size := ⟨_, rfl⟩
  have hbv : b'.hv = b.hv := by rw [hb']; rfl
  obtain ⟨p, hpp⟩ : ∃ p, p = W.heap.size := ⟨_, rfl⟩
  rw [← hb'] at XX hp' ⊢
  rw [← hpp] at hp'
  clear x hq fq
  go_enter Tryz.func23, Tryz.ntmps23
  go_wp2_with fail
  clear k4
  go_loopw [5, 19] (fun u5 u19 wr => ∃ k : Nat, k ≤ 1 ∧ u19 = .int .i64 k ∧ ((k = 0 ∧ wr = (W.alloc (.map #[] 0)).setCell ⟨b.hv, 4, none⟩ (.map (some W.heap.size))) ∨ (k = 1 ∧ HW w b' (pinV h [d]) st wr))) (fun _ u19 _ => 1 - (intOf u19).toNat)
  case atStart => exact ⟨0, by omega, rfl, .inl ⟨rfl, rfl⟩⟩
  case round =>
    obtain ⟨k, hk, rfl, ⟨rfl, hwr⟩ | ⟨rfl, hx⟩⟩ := hrel
    · rw [← hwr] at HR0 XX
      clear hwr hpp hb'
      have hx := XX.out
      have XD : PN w b' h st wr.heap.size d (wr.alloc (.cells (dg d) 39)).drew := ⟨(HX.alloc hx _).drew, heap_alloc_new _ _, fun hh => by have := HX.lt hx hh; omega⟩
      have KP : Hid (∀ {h' : Hv} W', PN w b' h' st wr.heap.size d W' → W'.cell? ⟨b.hv, 4, none⟩ = some (.map (some p)) ∧ W'.rangeAt wr.heap.size 0 (d.map vb)) := fun W' y => ⟨by rw [← hbv, y.x.c4, hp'], range_part y.c [] (d.map vb) [] 0 (by simp [dg]) rfl⟩
      have hps : PS (wr.alloc (.cells (dg d) 39)).drew (some p) h.pins := by have := XD.x.pn; rw [hp'] at this; exact this
      obtain ⟨W2, hrun, hP, ht⟩ := PS.put hps d hd (by rw [hpins]; decide)
      rw [hpins] at hP
      have XE : PN w b' (pinV h [d]) st wr.heap.size d W2 := ⟨XD.x.pinned hp' ht hP, heap_turned ht XD.c, XD.m⟩
      have HN1 : Hid (HW w b' (pinV h [d]) st W2) := XE.x
      clear hx XX hps hP ht hm f f4 c4 hql
      go_wp2_with (first
        | (refine wpList_load_mid rfl 39 _ rfl q 0 rfl (d.map vb) _ HR0.out und27 rfl hiD ?_; clear HR0)
        | (refine wpList_store_row rfl 39 _ _ rfl wr.heap.size (dg d) rfl rfl 39 zero32 (HST.out wr) (by rw [hDs]; exact info27) (by rw [hz3, hDs]) hD1 ?_; clear HST; rw [World.setRow_alloc_new]))
      refine wp_region_noPanic ?_
      refine wp_region_held_drew (S := (fun W' => W'.cell? ⟨b.hv, 4, none⟩ = some (.map (some p)) ∧ W'.rangeAt wr.heap.size 0 (d.map vb))) (by kernel_rfl) (KP.out _ XD) (fun hHeld => ?_)
      refine wpAnyH_take (i := 0) rfl (by kernel_rfl) (by kernel_rfl) (by kernel_rfl) (fun _ _ _ h => h) (yi_move (by kernel_rfl) rfl rfl) (by assumption) ?_
      simp only [Act.put, List.getElem_toArray, List.getElem_cons_succ, List.getElem_cons_zero, List.setIfInBounds_toArray, List.set_cons_zero, List.set_cons_succ]
      refine wpAnyH_take (i := 1) (v := ?_) rfl (by kernel_rfl) (by kernel_rfl) (by kernel_rfl) (fun _ _ _ h => h) (Or.inl ⟨by kernel_rfl, ?_⟩) (by assumption) ?_
      rotate_left
      · (intro w hSw; (try dsimp only at hSw); go_simp; (try with_reducible rfl))
      simp only [Act.put, List.getElem_toArray, List.getElem_cons_succ, List.getElem_cons_zero, List.setIfInBounds_toArray, List.set_cons_zero, List.set_cons_succ]
      refine wpAnyH_take (i := 2) (v := ?_) rfl (by kernel_rfl) (by kernel_rfl) (by kernel_rfl) (fun _ _ _ h => h) (Or.inl ⟨by kernel_rfl, ?_⟩) (by assumption) ?_
      rotate_left
      · (intro w hSw; (try dsimp only at hSw); go_simp; (try with_reducible rfl))
      simp only [Act.put, List.getElem_toArray, List.getElem_cons_succ, List.getElem_cons_zero, List.setIfInBounds_toArray, List.set_cons_zero, List.set_cons_succ]
      refine wpAnyH_take (i := 3) (v := ?_) rfl (by kernel_rfl) (by kernel_rfl) (by kernel_rfl) (fun _ _ _ h => h) (Or.inl ⟨by kernel_rfl, ?_⟩) (by assumption) ?_
      rotate_left
      · (intro w hSw; (try dsimp only at hSw); go_simp; (try with_reducible rfl))
      simp only [Act.put, List.getElem_toArray, List.getElem_cons_succ, List.getElem_cons_zero, List.setIfInBounds_toArray, List.set_cons_zero, List.set_cons_succ]
      refine wpAnyH_take (i := 4) (v := .agg (List.toArray (d.map vb))) rfl (by kernel_rfl) (by kernel_rfl) (by kernel_rfl) (fun _ _ _ h => h) (yieldsIf_load_mid (by kernel_rfl) _ (.tmp 5) (by kernel_rfl) wr.heap.size 0 (by kernel_rfl) (d.map vb) _ (fun W hW => hW.2) und27 rfl hiD) (by assumption) ?_
      simp only [Act.put, List.getElem_toArray, List.getElem_cons_succ, List.getElem_cons_zero, List.setIfInBounds_toArray, List.set_cons_zero, List.set_cons_succ]
      refine wpAnyH_take (i := 5) (v := .agg #[]) rfl (by kernel_rfl) (by kernel_rfl) (by kernel_rfl) (fun _ _ _ h => h) (yi_build (by kernel_rfl) rfl _ (by rfl) (fun w => b98 _)) (by assumption) ?_
      simp only [Act.put, List.getElem_toArray, List.getElem_cons_succ, List.getElem_cons_zero, List.setIfInBounds_toArray, List.set_cons_zero, List.set_cons_succ]
      refine wpAnyH_ready (rs := [6]) (by kernel_rfl) (by simp) ?_
      refine AllReadyH.cons (o := _) rfl (fun K hK => ?_) AllReadyH.nil
      refine stepv_mapUpdate rfl _ _ _ tPin rfl (.map (some p)) (.agg (dg d)) (.agg #[]) (by rfl) (by rfl) (by rfl) hrun (hK.out _ _ (KP.out _ XE) (fun hHeld => ?_))
      clear hK K
      (try simp only [Act.put, List.getElem_toArray, List.getElem_cons_succ, List.getElem_cons_zero, List.setIfInBounds_toArray, List.set_cons_zero, List.set_cons_succ])
      refine wpAnyH_done (by kernel_rfl) ?_ _
      refine NoPanic.normal ?_
      clear hHeld KP
      go_wp2_with fail
      go_roundw
      case rel => exact ⟨1, by omega, by go_num, .inr ⟨rfl, HN1.out⟩⟩
      case measure => simp [intOf]
    · have HX1 : Hid (HW w b' (pinV h [d]) st wr) := hx
      clear hx XX
      go_wp2_with fail
      refine bodyPost_end (results_none rfl _ _ _) rfl ?_
      exact ⟨rfl, HX1.out⟩
end Go.Proofs.YtlkllcnnnndllaaGreatDoor
