/- What a store's adopt does. -/
import Derived.Test.YtlkllcnnnndllaaGreatDoorN12
namespace Go.Proofs.YtlkllcnnnndllaaGreatDoor
open Go.RowKit Go.Maps
set_option linter.unusedVariables false
set_option linter.unusedSimpArgs false
attribute [local go_sem ↓] zero77


set_option maxRecDepth 8000 in
set_option maxHeartbeats 4000000 in
theorem adopt_bad {w W : World} {b : HB} {h : Hv} {st : H.Sh} (x : HW w b h st W) (i : Nat) (t : List UInt8) (ht : t.length ≤ 640) (hdc : V.decode t = none) :
    Calls Tryz.prog 47 #[.pointer (some ⟨b.hv, 0, none⟩), .int .i64 (i : Int), .string (M.bs t)] W fun e' w' => e' = .returned (.bool false) ∧ HW w b h st w' := by
  have hzs := zc_size
  have h1 := cv_one zc
  have LX : HW w b h st W := x
  have CD : Hid (∀ W', HW w b h st W' → Calls Tryz.prog 53 #[.string (M.bs t)] W' fun e' w' => e' = .returned (.tuple #[.agg (cv zc), .bool false]) ∧ HW w b h st w') := fun W' l => by
    have hh := decode_at t W' l.g ht
    rw [hdc] at hh
    refine hh.mono ?_
    rintro e' w' ⟨rfl, hb⟩
    exact ⟨rfl, HX.step l hb⟩
  have HST : Hid (∀ W : World, (W.alloc (.cells (cv zc) 76)).heap[W.heap.size]? = some (.cells (cv zc) 76 (0, 0))) := hst77'
  clear x hdc
  go_enter Tryz.func47, Tryz.ntmps47
  go_wp2_with (first
    | (go_at_call 53; refine (CD.out _ LX).mono ?_; clear CD LX; rintro e' w1 ⟨rfl, LX⟩)
    | (refine wpList_store_row rfl 76 _ _ rfl w1.heap.size (cv zc) rfl rfl 76 (cv zc) (HST.out w1) (by rw [hzs]; exact info77) rfl h1 ?_; clear HST; rw [World.setRow_alloc_new]))
  go_ret
  exact ⟨rfl, HX.alloc LX _⟩

set_option maxRecDepth 8000 in
set_option maxHeartbeats 4000000 in
theorem adopt_twice {w W : World} {b : HB} {h : Hv} {st : H.Sh} (x : HW w b h st W) (i : Nat) (t : List UInt8) (ht : t.length ≤ 640) {c : V.Ct} (hdc : V.decode t = some c) {j : Nat} (hf : V.findN h.es c.kind c.dig = some j) :
    Calls Tryz.prog 47 #[.pointer (some ⟨b.hv, 0, none⟩), .int .i64 (i : Int), .string (M.bs t)] W fun e' w' => e' = .returned (.bool false) ∧ HW w b h st w' := by
  obtain ⟨fs3, hum3⟩ := und73
  obtain ⟨fs5, hum5⟩ := und75
  have hzs := zc_size
  have hc32 : c.dig.length = 32 ∧ c.ck.length = 32 ∧ Rc32 c.rc := dec_len hdc
  have hck : c.kind.length ≤ 1 := by rcases V.decode_some hdc with ⟨hk, _⟩ | ⟨hk, _⟩ <;> rw [hk] <;> decide
  have hcz : (cvL c).toArray.size = 131 := by rw [List.size_toArray]; exact cvL_length hc32.1 hc32.2.1 hc32.2.2
  have hi73 : (Tryz.prog.info? 72).map (·.size) = some (nmL c.kind c.dig).length := by rw [info73, nmL_length hc32.1]
  have hi75 : (Tryz.prog.info? 74).map (·.size) = some (evL c.kind c.dig c.ck).length := by rw [info75, evL_length hc32.1 hc32.2.1]
  have hx0 : HW w b h st W := x
  have LX := hx0
  have CD : Hid (∀ W', HW w b h st W' → Calls Tryz.prog 53 #[.string (M.bs t)] W' fun e' w' => e' = .returned (.tuple #[.agg (cvL c).toArray, .bool true]) ∧ HW w b h st w') := fun W' l => by
    have hh := decode_at t W' l.g ht
    rw [hdc] at hh
    refine hh.mono ?_
    rintro e' w' ⟨rfl, hb⟩
    exact ⟨rfl, HX.step l hb⟩
  have HST : Hid (∀ W : World, (W.alloc (.cells (cv zc) 76)).heap[W.heap.size]? = some (.cells (cv zc) 76 (0, 0))) := hst77'
  have HRN : Hid (∀ W' : World, (W'.alloc (.cells (cvL c).toArray 76)).rangeAt W'.heap.size 0 (nmL c.kind c.dig) ∧ (W'.alloc (.cells (cvL c).toArray 76)).rangeAt W'.heap.size 0 (evL c.kind c.dig c.ck)) := fun W' =>
    ⟨range_part (C := (cvL c).toArray) (T := 76) (heap_alloc_new _ _) [] (nmL c.kind c.dig) (c.ck.map vb ++ .string (M.bs c.blob) :: rvL c.rc) 0 (by simp [cvL, evL]) rfl,
     range_part (C := (cvL c).toArray) (T := 76) (heap_alloc_new _ _) [] (evL c.kind c.dig c.ck) (.string (M.bs c.blob) :: rvL c.rc) 0 (by simp [cvL]) rfl⟩
  have HLK : Hid (∀ w', PW w' b.mp h.es → (Instr.lookup tMap (.map (some b.mp)) (.agg (nmv c.kind c.dig)) true).run Tryz.prog w' = .ok (.tuple #[.int .i64 (j : Int), .bool true]) w') := fun w' hp => by
    have := hp.look c.kind c.dig hck hc32.1
    rw [hf] at this
    exact this
  clear x hx0 hdc hf
  go_enter Tryz.func47, Tryz.ntmps47
  go_wp2_with (first
    | (go_at_call 53; refine (CD.out _ LX).mono ?_; clear CD LX; rintro e' w1 ⟨rfl, LX⟩)
    | (refine wpList_store_row rfl 76 _ _ rfl w1.heap.size (cvL c).toArray rfl rfl 76 (cv zc) (HST.out w1) (by rw [hcz]; exact info77) (by rw [hzs, hcz]) (all_oneCell_toArray (cvL_one c)) ?_; clear HST; rw [World.setRow_alloc_new]))
  replace LX : HW w b h st (w1.alloc (.cells (cvL c).toArray 76)).drew := HX.drew (HX.alloc LX _)
  have HR2 : Hid _ := HRN.out w1
  have XD : True := trivial
  have KP : (_ ∧ _) ∧ _ := ⟨⟨LX.c3, LX.mp⟩, (HRN.out w1).1⟩
  refine wp_region_noPanic ?_
  refine wp_region_held_drew (S := (fun W' => (W'.cell? ⟨b.hv, 3, none⟩ = some (.map (some b.mp)) ∧ PW W' b.mp h.es) ∧ W'.rangeAt w1.heap.size 0 (nmL c.kind c.dig))) (by kernel_rfl) (KP) (fun hHeld => ?_)
  refine wpAnyH_take (i := 0) rfl (by kernel_rfl) (by kernel_rfl) (by kernel_rfl) (fun _ _ _ h => h) (yi_move (by kernel_rfl) rfl rfl) (by assumption) ?_
  simp only [Act.put, List.getElem_toArray, List.getElem_cons_succ, List.getElem_cons_zero, List.setIfInBounds_toArray, List.set_cons_zero, List.set_cons_succ]
  refine wpAnyH_take (i := 1) (v := ?_) rfl (by kernel_rfl) (by kernel_rfl) (by kernel_rfl) (fun _ _ _ h => h) (Or.inl ⟨by kernel_rfl, ?_⟩) (by assumption) ?_
  rotate_left
  · (intro w hSw; (try dsimp only at hSw); go_simp; (try with_reducible rfl))
  simp only [Act.put, List.getElem_toArray, List.getElem_cons_succ, List.getElem_cons_zero, List.setIfInBounds_toArray, List.set_cons_zero, List.set_cons_succ]
  refine wpAnyH_take (i := 2) (v := ?_) rfl (by kernel_rfl) (by kernel_rfl) (by kernel_rfl) (fun _ _ _ h => h) (Or.inl ⟨by kernel_rfl, ?_⟩) (by assumption) ?_
  rotate_left
  · (intro w hSw; (try dsimp only at hSw); go_simp; (try with_reducible rfl))
  simp only [Act.put, List.getElem_toArray, List.getElem_cons_succ, List.getElem_cons_zero, List.setIfInBounds_toArray, List.set_cons_zero, List.set_cons_succ]
  refine wpAnyH_take (i := 3) (v := ?_) rfl (by kernel_rfl) (by kernel_rfl) (by kernel_rfl) (fun _ _ _ h => h) (Or.inl ⟨by kernel_rfl, ?_⟩) (by assumption) ?_
  rotate_left
  · (intro w hSw; (try dsimp only at hSw); go_simp; (try with_reducible rfl))
  simp only [Act.put, List.getElem_toArray, List.getElem_cons_succ, List.getElem_cons_zero, List.setIfInBounds_toArray, List.set_cons_zero, List.set_cons_succ]
  refine wpAnyH_take (i := 4) (v := ?_) rfl (by kernel_rfl) (by kernel_rfl) (by kernel_rfl) (fun _ _ _ h => h) (Or.inl ⟨by kernel_rfl, ?_⟩) (by assumption) ?_
  rotate_left
  · (intro w hSw; (try dsimp only at hSw); go_simp; (try with_reducible rfl))
  simp only [Act.put, List.getElem_toArray, List.getElem_cons_succ, List.getElem_cons_zero, List.setIfInBounds_toArray, List.set_cons_zero, List.set_cons_succ]
  refine wpAnyH_take (i := 5) (v := ?_) rfl (by kernel_rfl) (by kernel_rfl) (by kernel_rfl) (fun _ _ _ h => h) (Or.inl ⟨by kernel_rfl, ?_⟩) (by assumption) ?_
  rotate_left
  · (intro w hSw; (try dsimp only at hSw); go_simp; (try with_reducible rfl))
  simp only [Act.put, List.getElem_toArray, List.getElem_cons_succ, List.getElem_cons_zero, List.setIfInBounds_toArray, List.set_cons_zero, List.set_cons_succ]
  refine wpAnyH_take (i := 6) (v := .agg (List.toArray (nmL c.kind c.dig))) rfl (by kernel_rfl) (by kernel_rfl) (by kernel_rfl) (fun _ _ _ h => h) (yieldsIf_load_mid (by kernel_rfl) _ (.tmp 24) (by kernel_rfl) w1.heap.size 0 (by kernel_rfl) (nmL c.kind c.dig) _ (fun W hW => hW.2) hum3 rfl hi73) (by assumption) ?_
  simp only [Act.put, List.getElem_toArray, List.getElem_cons_succ, List.getElem_cons_zero, List.setIfInBounds_toArray, List.set_cons_zero, List.set_cons_succ]
  refine wpAnyH_take (i := 7) (v := .tuple #[.int .i64 (j : Int), .bool true]) rfl (by kernel_rfl) (by kernel_rfl) (by kernel_rfl) (fun _ _ _ h => h) (yi_lookup (by kernel_rfl) rfl (.map (some b.mp)) (.agg (nmv c.kind c.dig)) (by rfl) (by rfl) (fun w hSw => HLK.out w hSw.1.2)) (by assumption) ?_
  simp only [Act.put, List.getElem_toArray, List.getElem_cons_succ, List.getElem_cons_zero, List.setIfInBounds_toArray, List.set_cons_zero, List.set_cons_succ]
  refine wpAnyH_take (i := 8) (v := ?_) rfl (by kernel_rfl) (by kernel_rfl) (by kernel_rfl) (fun _ _ _ h => h) (Or.inl ⟨by kernel_rfl, ?_⟩) (by assumption) ?_
  rotate_left
  · (intro w hSw; (try dsimp only at hSw); go_simp; (try with_reducible rfl))
  simp only [Act.put, List.getElem_toArray, List.getElem_cons_succ, List.getElem_cons_zero, List.setIfInBounds_toArray, List.set_cons_zero, List.set_cons_succ]
  refine wpAnyH_take (i := 9) (v := ?_) rfl (by kernel_rfl) (by kernel_rfl) (by kernel_rfl) (fun _ _ _ h => h) (Or.inl ⟨by kernel_rfl, ?_⟩) (by assumption) ?_
  rotate_left
  · (intro w hSw; (try dsimp only at hSw); go_simp; (try with_reducible rfl))
  simp only [Act.put, List.getElem_toArray, List.getElem_cons_succ, List.getElem_cons_zero, List.setIfInBounds_toArray, List.set_cons_zero, List.set_cons_succ]
  refine wpAnyH_take (i := 10) (v := ?_) rfl (by kernel_rfl) (by kernel_rfl) (by kernel_rfl) (fun _ _ _ h => h) (Or.inl ⟨by kernel_rfl, ?_⟩) (by assumption) ?_
  rotate_left
  · (intro w hSw; (try dsimp only at hSw); go_simp; (try with_reducible rfl))
  simp only [Act.put, List.getElem_toArray, List.getElem_cons_succ, List.getElem_cons_zero, List.setIfInBounds_toArray, List.set_cons_zero, List.set_cons_succ]
  refine wpAnyH_take (i := 11) (v := ?_) rfl (by kernel_rfl) (by kernel_rfl) (by kernel_rfl) (fun _ _ _ h => h) (Or.inl ⟨by kernel_rfl, ?_⟩) (by assumption) ?_
  rotate_left
  · (intro w hSw; (try dsimp only at hSw); go_simp; (try with_reducible rfl))
  simp only [Act.put, List.getElem_toArray, List.getElem_cons_succ, List.getElem_cons_zero, List.setIfInBounds_toArray, List.set_cons_zero, List.set_cons_succ]
  refine wpAnyH_take (i := 12) (v := ?_) rfl (by kernel_rfl) (by kernel_rfl) (by kernel_rfl) (fun _ _ _ h => h) (Or.inl ⟨by kernel_rfl, ?_⟩) (by assumption) ?_
  rotate_left
  · (intro w hSw; (try dsimp only at hSw); go_simp; (try with_reducible rfl))
  simp only [Act.put, List.getElem_toArray, List.getElem_cons_succ, List.getElem_cons_zero, List.setIfInBounds_toArray, List.set_cons_zero, List.set_cons_succ]
  refine wpAnyH_done (by kernel_rfl) ?_ _
  refine NoPanic.normal ?_
  clear hHeld HLK KP
  go_wp2_with fail
  go_ret
  exact ⟨rfl, LX⟩

def enOf (c : V.Ct) : V.En := ⟨c.kind, c.dig, c.ck, 0⟩

set_option maxRecDepth 8000 in
set_option maxHeartbeats 4000000 in
theorem adopt_yes {w W : World} {b : HB} {h : Hv} {st : H.Sh} (x : HW w b h st W) (i : Nat) (t : List UInt8) (ht : t.length ≤ 640) {c : V.Ct} (hdc : V.decode t = some c) (hf : V.findN h.es c.kind c.dig = none) {f : V.En} (hfi : h.es[i]? = some f) (hf0 : f.kind = []) (hl : h.es.length ≤ 128) (hu : h.uses ≤ 1000000) :
    Calls Tryz.prog 47 #[.pointer (some ⟨b.hv, 0, none⟩), .int .i64 (i : Int), .string (M.bs t)] W fun e' w' => e' = .returned (.bool true) ∧ HW w b (fillV h i (enOf c)) st w' := by
  obtain ⟨fs3, hum3⟩ := und73
  obtain ⟨fs5, hum5⟩ := und75
  have hzs := zc_size
  have hc32 : c.dig.length = 32 ∧ c.ck.length = 32 ∧ Rc32 c.rc := dec_len hdc
  have hck : c.kind.length ≤ 1 := by rcases V.decode_some hdc with ⟨hk, _⟩ | ⟨hk, _⟩ <;> rw [hk] <;> decide
  have hcz : (cvL c).toArray.size = 131 := by rw [List.size_toArray]; exact cvL_length hc32.1 hc32.2.1 hc32.2.2
  have hi73 : (Tryz.prog.info? 72).map (·.size) = some (nmL c.kind c.dig).length := by rw [info73, nmL_length hc32.1]
  have hi75 : (Tryz.prog.info? 74).map (·.size) = some (evL c.kind c.dig c.ck).length := by rw [info75, evL_length hc32.1 hc32.2.1]
  have hx0 : HW w b h st W := x
  have LX := hx0
  have CD : Hid (∀ W', HW w b h st W' → Calls Tryz.prog 53 #[.string (M.bs t)] W' fun e' w' => e' = .returned (.tuple #[.agg (cvL c).toArray, .bool true]) ∧ HW w b h st w') := fun W' l => by
    have hh := decode_at t W' l.g ht
    rw [hdc] at hh
    refine hh.mono ?_
    rintro e' w' ⟨rfl, hb⟩
    exact ⟨rfl, HX.step l hb⟩
  have HST : Hid (∀ W : World, (W.alloc (.cells (cv zc) 76)).heap[W.heap.size]? = some (.cells (cv zc) 76 (0, 0))) := hst77'
  have HRN : Hid (∀ W' : World, (W'.alloc (.cells (cvL c).toArray 76)).rangeAt W'.heap.size 0 (nmL c.kind c.dig) ∧ (W'.alloc (.cells (cvL c).toArray 76)).rangeAt W'.heap.size 0 (evL c.kind c.dig c.ck)) := fun W' =>
    ⟨range_part (C := (cvL c).toArray) (T := 76) (heap_alloc_new _ _) [] (nmL c.kind c.dig) (c.ck.map vb ++ .string (M.bs c.blob) :: rvL c.rc) 0 (by simp [cvL, evL]) rfl,
     range_part (C := (cvL c).toArray) (T := 76) (heap_alloc_new _ _) [] (evL c.kind c.dig c.ck) (.string (M.bs c.blob) :: rvL c.rc) 0 (by simp [cvL]) rfl⟩
  have HLK : Hid (∀ w', PW w' b.mp h.es → (Instr.lookup tMap (.map (some b.mp)) (.agg (nmv c.kind c.dig)) true).run Tryz.prog w' = .ok (.tuple #[.int .i64 0, .bool false]) w') := fun w' hp => by
    have := hp.look c.kind c.dig hck hc32.1
    rw [hf] at this
    exact this
  have hck0 : c.kind ≠ [] := by rcases V.decode_some hdc with ⟨hk, _⟩ | ⟨hk, _⟩ <;> rw [hk] <;> decide
  have CF : Hid (∀ W', HW w b h st W' → Calls Tryz.prog 51 #[.pointer (some ⟨b.hv, 0, none⟩), .int .i64 (i : Int), .agg (evL c.kind c.dig c.ck).toArray] W' fun e' w' => e' = .returned (.tuple #[]) ∧ HW w b (fillV h i (enOf c)) st w') := fun W' l => fill_x l hfi hf0 (e := enOf c) ⟨hc32.1, hc32.2.1, hck⟩ hck0 hf hl hu
  clear x hx0 hdc hf hfi hf0 hck0 hl hu
  go_enter Tryz.func47, Tryz.ntmps47
  go_wp2_with (first
    | (go_at_call 53; refine (CD.out _ LX).mono ?_; clear CD LX; rintro e' w1 ⟨rfl, LX⟩)
    | (refine wpList_store_row rfl 76 _ _ rfl w1.heap.size (cvL c).toArray rfl rfl 76 (cv zc) (HST.out w1) (by rw [hcz]; exact info77) (by rw [hzs, hcz]) (all_oneCell_toArray (cvL_one c)) ?_; clear HST; rw [World.setRow_alloc_new]))
  replace LX : HW w b h st (w1.alloc (.cells (cvL c).toArray 76)).drew := HX.drew (HX.alloc LX _)
  have HR2 : Hid _ := HRN.out w1
  have XD : True := trivial
  have KP : (_ ∧ _) ∧ _ := ⟨⟨LX.c3, LX.mp⟩, (HRN.out w1).1⟩
  refine wp_region_noPanic ?_
  refine wp_region_held_drew (S := (fun W' => (W'.cell? ⟨b.hv, 3, none⟩ = some (.map (some b.mp)) ∧ PW W' b.mp h.es) ∧ W'.rangeAt w1.heap.size 0 (nmL c.kind c.dig))) (by kernel_rfl) (KP) (fun hHeld => ?_)
  refine wpAnyH_take (i := 0) rfl (by kernel_rfl) (by kernel_rfl) (by kernel_rfl) (fun _ _ _ h => h) (yi_move (by kernel_rfl) rfl rfl) (by assumption) ?_
  simp only [Act.put, List.getElem_toArray, List.getElem_cons_succ, List.getElem_cons_zero, List.setIfInBounds_toArray, List.set_cons_zero, List.set_cons_succ]
  refine wpAnyH_take (i := 1) (v := ?_) rfl (by kernel_rfl) (by kernel_rfl) (by kernel_rfl) (fun _ _ _ h => h) (Or.inl ⟨by kernel_rfl, ?_⟩) (by assumption) ?_
  rotate_left
  · (intro w hSw; (try dsimp only at hSw); go_simp; (try with_reducible rfl))
  simp only [Act.put, List.getElem_toArray, List.getElem_cons_succ, List.getElem_cons_zero, List.setIfInBounds_toArray, List.set_cons_zero, List.set_cons_succ]
  refine wpAnyH_take (i := 2) (v := ?_) rfl (by kernel_rfl) (by kernel_rfl) (by kernel_rfl) (fun _ _ _ h => h) (Or.inl ⟨by kernel_rfl, ?_⟩) (by assumption) ?_
  rotate_left
  · (intro w hSw; (try dsimp only at hSw); go_simp; (try with_reducible rfl))
  simp only [Act.put, List.getElem_toArray, List.getElem_cons_succ, List.getElem_cons_zero, List.setIfInBounds_toArray, List.set_cons_zero, List.set_cons_succ]
  refine wpAnyH_take (i := 3) (v := ?_) rfl (by kernel_rfl) (by kernel_rfl) (by kernel_rfl) (fun _ _ _ h => h) (Or.inl ⟨by kernel_rfl, ?_⟩) (by assumption) ?_
  rotate_left
  · (intro w hSw; (try dsimp only at hSw); go_simp; (try with_reducible rfl))
  simp only [Act.put, List.getElem_toArray, List.getElem_cons_succ, List.getElem_cons_zero, List.setIfInBounds_toArray, List.set_cons_zero, List.set_cons_succ]
  refine wpAnyH_take (i := 4) (v := ?_) rfl (by kernel_rfl) (by kernel_rfl) (by kernel_rfl) (fun _ _ _ h => h) (Or.inl ⟨by kernel_rfl, ?_⟩) (by assumption) ?_
  rotate_left
  · (intro w hSw; (try dsimp only at hSw); go_simp; (try with_reducible rfl))
  simp only [Act.put, List.getElem_toArray, List.getElem_cons_succ, List.getElem_cons_zero, List.setIfInBounds_toArray, List.set_cons_zero, List.set_cons_succ]
  refine wpAnyH_take (i := 5) (v := ?_) rfl (by kernel_rfl) (by kernel_rfl) (by kernel_rfl) (fun _ _ _ h => h) (Or.inl ⟨by kernel_rfl, ?_⟩) (by assumption) ?_
  rotate_left
  · (intro w hSw; (try dsimp only at hSw); go_simp; (try with_reducible rfl))
  simp only [Act.put, List.getElem_toArray, List.getElem_cons_succ, List.getElem_cons_zero, List.setIfInBounds_toArray, List.set_cons_zero, List.set_cons_succ]
  refine wpAnyH_take (i := 6) (v := .agg (List.toArray (nmL c.kind c.dig))) rfl (by kernel_rfl) (by kernel_rfl) (by kernel_rfl) (fun _ _ _ h => h) (yieldsIf_load_mid (by kernel_rfl) _ (.tmp 24) (by kernel_rfl) w1.heap.size 0 (by kernel_rfl) (nmL c.kind c.dig) _ (fun W hW => hW.2) hum3 rfl hi73) (by assumption) ?_
  simp only [Act.put, List.getElem_toArray, List.getElem_cons_succ, List.getElem_cons_zero, List.setIfInBounds_toArray, List.set_cons_zero, List.set_cons_succ]
  refine wpAnyH_take (i := 7) (v := .tuple #[.int .i64 0, .bool false]) rfl (by kernel_rfl) (by kernel_rfl) (by kernel_rfl) (fun _ _ _ h => h) (yi_lookup (by kernel_rfl) rfl (.map (some b.mp)) (.agg (nmv c.kind c.dig)) (by rfl) (by rfl) (fun w hSw => HLK.out w hSw.1.2)) (by assumption) ?_
  simp only [Act.put, List.getElem_toArray, List.getElem_cons_succ, List.getElem_cons_zero, List.setIfInBounds_toArray, List.set_cons_zero, List.set_cons_succ]
  refine wpAnyH_take (i := 8) (v := ?_) rfl (by kernel_rfl) (by kernel_rfl) (by kernel_rfl) (fun _ _ _ h => h) (Or.inl ⟨by kernel_rfl, ?_⟩) (by assumption) ?_
  rotate_left
  · (intro w hSw; (try dsimp only at hSw); go_simp; (try with_reducible rfl))
  simp only [Act.put, List.getElem_toArray, List.getElem_cons_succ, List.getElem_cons_zero, List.setIfInBounds_toArray, List.set_cons_zero, List.set_cons_succ]
  refine wpAnyH_take (i := 9) (v := ?_) rfl (by kernel_rfl) (by kernel_rfl) (by kernel_rfl) (fun _ _ _ h => h) (Or.inl ⟨by kernel_rfl, ?_⟩) (by assumption) ?_
  rotate_left
  · (intro w hSw; (try dsimp only at hSw); go_simp; (try with_reducible rfl))
  simp only [Act.put, List.getElem_toArray, List.getElem_cons_succ, List.getElem_cons_zero, List.setIfInBounds_toArray, List.set_cons_zero, List.set_cons_succ]
  refine wpAnyH_take (i := 10) (v := ?_) rfl (by kernel_rfl) (by kernel_rfl) (by kernel_rfl) (fun _ _ _ h => h) (Or.inl ⟨by kernel_rfl, ?_⟩) (by assumption) ?_
  rotate_left
  · (intro w hSw; (try dsimp only at hSw); go_simp; (try with_reducible rfl))
  simp only [Act.put, List.getElem_toArray, List.getElem_cons_succ, List.getElem_cons_zero, List.setIfInBounds_toArray, List.set_cons_zero, List.set_cons_succ]
  refine wpAnyH_take (i := 11) (v := ?_) rfl (by kernel_rfl) (by kernel_rfl) (by kernel_rfl) (fun _ _ _ h => h) (Or.inl ⟨by kernel_rfl, ?_⟩) (by assumption) ?_
  rotate_left
  · (intro w hSw; (try dsimp only at hSw); go_simp; (try with_reducible rfl))
  simp only [Act.put, List.getElem_toArray, List.getElem_cons_succ, List.getElem_cons_zero, List.setIfInBounds_toArray, List.set_cons_zero, List.set_cons_succ]
  refine wpAnyH_take (i := 12) (v := ?_) rfl (by kernel_rfl) (by kernel_rfl) (by kernel_rfl) (fun _ _ _ h => h) (Or.inl ⟨by kernel_rfl, ?_⟩) (by assumption) ?_
  rotate_left
  · (intro w hSw; (try dsimp only at hSw); go_simp; (try with_reducible rfl))
  simp only [Act.put, List.getElem_toArray, List.getElem_cons_succ, List.getElem_cons_zero, List.setIfInBounds_toArray, List.set_cons_zero, List.set_cons_succ]
  refine wpAnyH_done (by kernel_rfl) ?_ _
  refine NoPanic.normal ?_
  clear hHeld HLK KP
  go_wp2_with (first
    | (refine wpList_load_mid rfl 74 _ rfl w1.heap.size 0 rfl (evL c.kind c.dig c.ck) _ HR2.out.2 hum5 rfl hi75 ?_; clear HR2)
    | (go_at_call 51; refine (CF.out _ LX).mono ?_; clear CF LX; rintro e' w2 ⟨rfl, LX⟩))
  go_ret
  exact ⟨rfl, LX⟩
end Go.Proofs.YtlkllcnnnndllaaGreatDoor
