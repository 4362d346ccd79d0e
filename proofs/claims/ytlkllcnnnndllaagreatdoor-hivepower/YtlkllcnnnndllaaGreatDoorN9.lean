/- What a store's makeRoom and put do. -/
import Derived.Test.YtlkllcnnnndllaaGreatDoorN8
namespace Go.Proofs.YtlkllcnnnndllaaGreatDoor
open Go.RowKit Go.Maps
set_option linter.unusedVariables false
set_option linter.unusedSimpArgs false
attribute [local go_sem ↓] zero77
attribute [local go_sem ↓] zero27
attribute [local go_sem ↓] zero75

set_option maxRecDepth 8000 in
set_option maxHeartbeats 1000000 in
theorem room_free {w W : World} {b : HB} {h : Hv} {st : H.Sh} (x : HW w b h st W) (hn : h.es.length ≤ 128) (i : Nat) (hf : freeI h.es = (i : Int)) :
    Calls Tryz.prog 49 #[.pointer (some ⟨b.hv, 0, none⟩)] W fun e' w' => e' = .returned (.tuple #[.int .i64 (i : Int), .int .i64 0]) ∧ HW w b h st w' := by
  have k2 := x.c2
  have CI0 := IndexFunc_x x hn
  rw [hf] at CI0
  have CI : Hid _ := CI0
  clear x CI0 hf
  go_enter Tryz.func49, Tryz.ntmps49
  go_wp2_with (go_at_call 65; refine Calls.mono CI.out ?_; clear CI; rintro e' w1 ⟨rfl, hy⟩)
  go_ret2
  exact ⟨rfl, hy⟩
set_option maxRecDepth 8000 in
set_option maxHeartbeats 1000000 in
theorem room_full {w W : World} {b : HB} {h : Hv} {st : H.Sh} (x : HW w b h st W) (hn : h.es.length ≤ 128) (hf : freeI h.es = -1) (hus : ∀ (i : Nat) (e : V.En), h.es[i]? = some e → e.used ≤ 2000000) (o : Nat) (ho : oldS h.pins h.es h.es.length = (o, false)) :
    Calls Tryz.prog 49 #[.pointer (some ⟨b.hv, 0, none⟩)] W fun e' w' => e' = .returned (.tuple #[.int .i64 0, .int .i64 11]) ∧ HW w b h st w' := by
  have k2 := x.c2
  have CI0 := IndexFunc_x x hn
  rw [hf] at CI0
  have CI : Hid _ := CI0
  have CO : Hid (∀ W', HW w b h st W' → Calls Tryz.prog 67 #[.pointer (some ⟨b.hv, 0, none⟩)] W' fun e' w' => e' = .returned (.tuple #[.int .i64 (o : Int), .bool false]) ∧ HW w b h st w') := fun W' y => by
    have := oldest_x y hn hus
    rw [ho] at this
    exact this
  clear x CI0 hf hus ho
  go_enter Tryz.func49, Tryz.ntmps49
  go_wp2_with (first
    | (go_at_call 65; refine Calls.mono CI.out ?_; clear CI; rintro e' w1 ⟨rfl, hy⟩)
    | (go_at_call 67; refine (CO.out _ hy).mono ?_; clear CO hy; rintro e' w2 ⟨rfl, hy⟩))
  go_ret2
  exact ⟨rfl, hy⟩
/-- the shelf behind a write -/
def wrS (st : H.Sh) (i : Nat) (t : List UInt8) : H.Sh := H.act (H.put st i t)
theorem wrS_len (st : H.Sh) (i : Nat) (t : List UInt8) : (wrS st i t).sl.length = st.sl.length := by unfold wrS; rw [act_sl]; simp [H.put]
/-- a write on the shelf -/
theorem Write_h {w W : World} {b : HB} {h : Hv} {em : List V.En} {st : H.Sh} (x : HX w b h em st W) {i : Nat} {s : H.Sl} (hs : st.sl[i]? = some s) (hm : Sm st) (ho : st.off = false) (t : List UInt8) (ht : t.length ≤ 640) :
    Calls Tryz.prog 48 #[.pointer (some ⟨b.sh, 0, none⟩), .int .i64 (i : Int), .string (M.bs t)] W fun e' w' => e' = .returned (.int .i64 (actE st)) ∧ HX w b h em (wrS st i t) w' := by
  refine (Write_at x.sw hs hm ho t ht).mono ?_
  rintro e' w' ⟨rfl, y⟩
  exact ⟨rfl, x.shelf y (wrS_len st i t)⟩
/-- a sync of the shelf that is done -/
theorem Sync_h {w W : World} {b : HB} {h : Hv} {em : List V.En} {st : H.Sh} (x : HX w b h em st W) (hm : Sm st) (ho : st.off = false) (ha : st.arm ≠ 1) :
    Calls Tryz.prog 37 #[.pointer (some ⟨b.sh, 0, none⟩)] W fun e' w' => e' = .returned (.int .i64 0) ∧ HX w b h em (H.sync (H.act st)) w' := by
  refine (Sync_at x.sw ho hm ha).mono ?_
  rintro e' w' ⟨rfl, y⟩
  exact ⟨rfl, x.shelf y (by simp [H.sync, act_sl])⟩
set_option maxRecDepth 8000 in
set_option maxHeartbeats 1000000 in
theorem room_evict {w W : World} {b : HB} {h : Hv} {st : H.Sh} (x : HW w b h st W) (hn : h.es.length ≤ 128) (hf : freeI h.es = -1) (hus : ∀ (i : Nat) (e : V.En), h.es[i]? = some e → e.used ≤ 2000000) (o : Nat) (ho : oldS h.pins h.es h.es.length = (o, true)) (hoff : st.off = false) (ha : st.arm = 0) (hm : Sm st) (hm2 : Sm (wrS st o [])) :
    Calls Tryz.prog 49 #[.pointer (some ⟨b.hv, 0, none⟩)] W fun e' w' => e' = .returned (.tuple #[.int .i64 (o : Int), .int .i64 0]) ∧ HW w b h (H.sync (H.act (wrS st o []))) w' := by
  have k2 := x.c2
  have CI0 := IndexFunc_x x hn
  rw [hf] at CI0
  have CI : Hid _ := CI0
  have CO : Hid (∀ W', HW w b h st W' → Calls Tryz.prog 67 #[.pointer (some ⟨b.hv, 0, none⟩)] W' fun e' w' => e' = .returned (.tuple #[.int .i64 (o : Int), .bool true]) ∧ HW w b h st w') := fun W' y => by
    have := oldest_x y hn hus
    rw [ho] at this
    exact this
  have hol : o < h.es.length := by
    have := oldS_lt h.pins h.es h.es.length (by rw [ho])
    rw [ho] at this; exact this.2
  have hsl : o < st.sl.length := by rw [← x.n]; exact hol
  obtain ⟨s, hs⟩ : ∃ s, st.sl[o]? = some s := ⟨st.sl[o], List.getElem?_eq_getElem hsl⟩
  have CW : Hid (∀ W', HW w b h st W' → Calls Tryz.prog 48 #[.pointer (some ⟨b.sh, 0, none⟩), .int .i64 (o : Int), .string ⟨#[]⟩] W' fun e' w' => e' = .returned (.int .i64 0) ∧ HW w b h (wrS st o []) w') := fun W' y => by
    have := Write_h y hs hm hoff [] (by simp)
    rw [show actE st = 0 by unfold actE; rw [if_neg (by omega)]] at this
    exact this
  have hw0 : (wrS st o []).off = false ∧ (wrS st o []).arm = 0 := by
    unfold wrS H.act H.put
    simp only [ha, if_true]
    exact ⟨hoff, trivial⟩
  have CS : Hid (∀ W', HW w b h (wrS st o []) W' → Calls Tryz.prog 37 #[.pointer (some ⟨b.sh, 0, none⟩)] W' fun e' w' => e' = .returned (.int .i64 0) ∧ HW w b h (H.sync (H.act (wrS st o []))) w') := fun W' y => Sync_h y hm2 hw0.1 (by rw [hw0.2]; decide)
  have HK : Hid (∀ (st' : H.Sh) W', HW w b h st' W' → W'.cell? ⟨b.hv, 0, none⟩ = some (.pointer (some ⟨b.sh, 0, none⟩))) := fun st' W' y => HX.c0 y
  clear x CI0 hf hus ho hs hw0 hm hm2 ha hoff hsl hol
  go_enter Tryz.func49, Tryz.ntmps49
  go_wp2_with (first
    | (go_at_call 65; refine Calls.mono CI.out ?_; clear CI; rintro e' w1 ⟨rfl, hy⟩)
    | (go_at_call 67; refine (CO.out _ hy).mono ?_; clear CO hy; rintro e' w2 ⟨rfl, hy⟩; have k0 := HK.out _ _ hy)
    | (go_at_call 48; refine (CW.out _ hy).mono ?_; clear CW hy k0; rintro e' w3 ⟨rfl, hy⟩; have k0 := HK.out _ _ hy)
    | (go_at_call 37; refine (CS.out _ hy).mono ?_; clear CS hy k0; rintro e' w4 ⟨rfl, hy⟩))
  go_ret2
  exact ⟨rfl, hy⟩

set_option maxRecDepth 8000 in
set_option maxHeartbeats 1000000 in
/-- no room -/
theorem put_err {w W : World} {b : HB} {h : Hv} {st st1 : H.Sh} (x : HW w b h st W) (k d ck : List UInt8) (t : List UInt8) (er : Int) (her : er ≠ 0)
    (CM0 : ∀ W', HW w b h st W' → Calls Tryz.prog 49 #[.pointer (some ⟨b.hv, 0, none⟩)] W' fun e' w' => e' = .returned (.tuple #[.int .i64 0, .int .i64 er]) ∧ HW w b h st1 w') :
    Calls Tryz.prog 31 #[.pointer (some ⟨b.hv, 0, none⟩), .agg (ev k d ck), .string (M.bs t)] W fun e' w' => e' = .returned (.int .i64 er) ∧ HW w b h st1 w' := by
  have XX : Hid (HW w b h st (W.alloc (.cells (ev k d ck) 74))) := HX.alloc x _
  have CM : Hid _ := CM0
  have hne : (er != 0) = true := by simpa using her
  clear x CM0 her
  go_enter Tryz.func31, Tryz.ntmps31
  go_wp2_with (go_at_call 49; refine (CM.out _ XX.out).mono ?_; clear CM XX; rintro e' w1 ⟨rfl, hy⟩)
  go_ret
  exact ⟨rfl, hy⟩
def putV (h : Hv) (i : Nat) (e : V.En) : Hv := fillV (dropV h i) i e
theorem find_drop {es : List V.En} {k d : List UInt8} (h : V.findN es k d = none) (i : Nat) : V.findN (es.set i V.en0) k d = none := by
  unfold V.findN at h ⊢
  rw [List.findIdx?_eq_none_iff] at h ⊢
  intro e he
  rcases List.mem_or_eq_of_mem_set he with h' | rfl
  · exact h e h'
  · simp [V.en0]
set_option maxRecDepth 8000 in
set_option maxHeartbeats 1000000 in
/-- an entry is put -/
theorem put_ok {w W : World} {b : HB} {h : Hv} {st st1 : H.Sh} (x : HW w b h st W) {e : V.En} (e32 : En32 e) (hek : e.kind ≠ []) (hn : V.findN h.es e.kind e.dig = none) (hl : h.es.length ≤ 128) (hu : h.uses ≤ 1000000) (t : List UInt8) (ht : t.length ≤ 640) (i : Nat)
    (CM0 : ∀ W', HW W' b h st W' → Calls Tryz.prog 49 #[.pointer (some ⟨b.hv, 0, none⟩)] W' fun e' w' => e' = .returned (.tuple #[.int .i64 (i : Int), .int .i64 0]) ∧ HW W' b h st1 w')
    (hi : i < h.es.length) {s : H.Sl} (hs : st1.sl[i]? = some s) (hm : Sm st1) (ho : st1.off = false) (ha : st1.arm ≠ 1) :
    Calls Tryz.prog 31 #[.pointer (some ⟨b.hv, 0, none⟩), .agg (ev e.kind e.dig e.ck), .string (M.bs t)] W fun e' w' => e' = .returned (.int .i64 0) ∧ HW w b (putV h i e) (wrS st1 i t) w' := by
  obtain ⟨fs5, hum5⟩ := und75
  have hes := ev_size (k := e.kind) e32.d e32.c
  have hmW : ¬ b.mem W.heap.size := fun hm => by have := HX.lt x hm; omega
  have LX : LK w b h h.es st 74 (ev e.kind e.dig e.ck) W.heap.size (W.alloc (.cells (ev e.kind e.dig e.ck) 74)) := ⟨HX.alloc x _, heap_alloc_new _ _, hmW, x.o.size, x.g.z⟩
  obtain ⟨a, haa⟩ : ∃ a, h.es[i]? = some a := ⟨h.es[i], List.getElem?_eq_getElem hi⟩
  have CM : Hid (∀ W', LK w b h h.es st 74 (ev e.kind e.dig e.ck) W.heap.size W' → Calls Tryz.prog 49 #[.pointer (some ⟨b.hv, 0, none⟩)] W' fun e' w' => e' = .returned (.tuple #[.int .i64 (i : Int), .int .i64 0]) ∧ LK w b h h.es st1 74 (ev e.kind e.dig e.ck) W.heap.size w') := fun W' l => by
    refine (CM0 W' l.x.base).mono ?_
    rintro e' w' ⟨rfl, y⟩; exact ⟨rfl, l.turn y⟩
  have CW : Hid (∀ W', LK w b h h.es st1 74 (ev e.kind e.dig e.ck) W.heap.size W' → Calls Tryz.prog 48 #[.pointer (some ⟨b.sh, 0, none⟩), .int .i64 (i : Int), .string (M.bs t)] W' fun e' w' => e' = .returned (.int .i64 0) ∧ LK w b h h.es (wrS st1 i t) 74 (ev e.kind e.dig e.ck) W.heap.size w') := fun W' l => by
    have hh := Write_h l.x.base hs hm ho t ht
    rw [show actE st1 = 0 by unfold actE; rw [if_neg ha]] at hh
    refine hh.mono ?_
    rintro e' w' ⟨rfl, y⟩; exact ⟨rfl, l.turn y⟩
  have CD : Hid (∀ W', LK w b h h.es (wrS st1 i t) 74 (ev e.kind e.dig e.ck) W.heap.size W' → Calls Tryz.prog 50 #[.pointer (some ⟨b.hv, 0, none⟩), .int .i64 (i : Int)] W' fun e' w' => e' = .returned (.tuple #[]) ∧ LK w b (dropV h i) (dropV h i).es (wrS st1 i t) 74 (ev e.kind e.dig e.ck) W.heap.size w') := fun W' l => by
    refine (drop_x (h := h) (w := W') (W := W') (b := b) (st := wrS st1 i t) l.x.base haa hl).mono ?_
    rintro e' w' ⟨rfl, y⟩; exact ⟨rfl, l.turn y⟩
  have CF : Hid (∀ W', LK w b (dropV h i) (dropV h i).es (wrS st1 i t) 74 (ev e.kind e.dig e.ck) W.heap.size W' → Calls Tryz.prog 51 #[.pointer (some ⟨b.hv, 0, none⟩), .int .i64 (i : Int), .agg (ev e.kind e.dig e.ck)] W' fun e' w' => e' = .returned (.tuple #[]) ∧ LK w b (putV h i e) (putV h i e).es (wrS st1 i t) 74 (ev e.kind e.dig e.ck) W.heap.size w') := fun W' l => by
    refine (fill_x (h := dropV h i) (w := W') (W := W') (b := b) (st := wrS st1 i t) l.x.base (i := i) (f := V.en0) (e := e) (by simp [dropV, hi]) rfl e32 hek (find_drop hn i) (by simp [dropV]; exact hl) hu).mono ?_
    rintro e' w' ⟨rfl, y⟩; exact ⟨rfl, l.turn y⟩
  have HK : Hid (∀ (h' : Hv) (em : List V.En) (st' : H.Sh) W', LK w b h' em st' 74 (ev e.kind e.dig e.ck) W.heap.size W' → W'.cell? ⟨b.hv, 0, none⟩ = some (.pointer (some ⟨b.sh, 0, none⟩))) := fun h' em st' W' y => y.x.c0
  clear x CM0 hn hs haa hm ho ha hmW
  generalize ev e.kind e.dig e.ck = EE at *
  go_enter Tryz.func31, Tryz.ntmps31
  go_wp2_with (first
    | (go_at_call 49; refine (CM.out _ LX).mono ?_; clear CM LX; rintro e' w1 ⟨rfl, LX⟩; have k0 := HK.out _ _ _ _ LX)
    | (go_at_call 48; refine (CW.out _ LX).mono ?_; clear CW LX k0; rintro e' w2 ⟨rfl, LX⟩)
    | (go_at_call 50; refine (CD.out _ LX).mono ?_; clear CD LX; rintro e' w3 ⟨rfl, LX⟩)
    | (refine wpList_load_row rfl 74 _ rfl W.heap.size rfl 74 EE (0, 0) _ LX.c hum5 rfl (by rw [hes]; exact info75) ?_)
    | (go_at_call 51; refine (CF.out _ LX).mono ?_; clear CF LX; rintro e' w4 ⟨rfl, LX⟩))
  go_ret
  exact ⟨rfl, LX.x⟩

set_option maxRecDepth 8000 in
set_option maxHeartbeats 1000000 in
theorem blobEntry_at (d t : List UInt8) (W : World) (hG : GW W) (hd : d.length = 32) (ht : t.length ≤ 640) :
    Calls Tryz.prog 32 #[.agg (dg d), .string (M.bs t)] W fun e' w' => e' = .returned (.tuple #[.agg (ev V.kb d (S.sha (M.rowB (V.blobL t)))), .string (M.bs (V.sealB (V.blobL t)))]) ∧ Below W.heap.size W w' := by
  obtain ⟨fs5, hum5⟩ := und75
  have hDs : (dg d).size = 32 := by rw [dg_size, hd]
  have he0 := ev_size (k := []) zd_length zd_length
  have hes := ev_size (k := V.kb) (c := S.sha (M.rowB (V.blobL t))) hd (S.sha_length _)
  have he1 := ev_one V.kb d (S.sha (M.rowB (V.blobL t)))
  have hB0 : Below W.heap.size W ((W.alloc (.cells (dg d) 39)).alloc (.cells (ev [] V.zd V.zd) 74)) := ((Below.refl _ W).alloc (Nat.le_refl _) _).alloc (by simp) _
  have HN : Hid (((W.alloc (.cells (dg d) 39)).alloc (.cells (ev [] V.zd V.zd) 74)).heap[W.heap.size]? = some (.cells (dg d) 39 (0, 0))) := by show _ = _; rw [Below.heap_alloc _ _ _ (by simp)]; exact heap_alloc_new _ _
  have CS : Hid (Calls Tryz.prog 52 #[.agg (dg d), .string ⟨#[98]⟩, .slice (some ⟨W.heap.size + 1 + 1, 0, none⟩) 1 1] (((W.alloc (.cells (dg d) 39)).alloc (.cells (ev [] V.zd V.zd) 74)).alloc (.cells #[.string (M.bs t)] 9)) fun e' w' => e' = .returned (.tuple #[.agg (ev V.kb d (S.sha (M.rowB (V.blobL t)))), .string (M.bs (V.sealB (V.blobL t)))]) ∧ Below W.heap.size W w' ∧ w'.heap[W.heap.size + 1]? = some (.cells (ev [] V.zd V.zd) 74 (0, 0))) := by
    have hB1 : Below W.heap.size W (((W.alloc (.cells (dg d) 39)).alloc (.cells (ev [] V.zd V.zd) 74)).alloc (.cells #[.string (M.bs t)] 9)) := hB0.alloc (by simp; omega) _
    refine (seal_at d V.kb [t] (W.heap.size + 1 + 1) 0 1 _ (hG.below hB1 hG.z) hd (by simp) (by simp) (by decide) (by simp; exact ht) (by simp) (fun i u hu => ?_)).mono ?_
    · rcases i with _ | i
      · simp at hu; subst hu
        have := cell_new1 ((W.alloc (.cells (dg d) 39)).alloc (.cells (ev [] V.zd V.zd) 74)) (.string (M.bs t)) 9
        rwa [show ((W.alloc (.cells (dg d) 39)).alloc (.cells (ev [] V.zd V.zd) 74)).heap.size = W.heap.size + 1 + 1 by simp] at this
      · simp at hu
    · rintro e' w' ⟨rfl, hb⟩
      refine ⟨rfl, hB1.trans (hb.mono (by simp; omega)), ?_⟩
      rw [hb.block _ (by first | (simp; done) | (simp; omega)), Below.heap_alloc _ _ _ (by simp)]
      exact new2 _ _ _
  clear hB0 hG
  generalize dg d = DD at *
  generalize ev V.kb d (S.sha (M.rowB (V.blobL t))) = EE at *
  generalize V.sealB (V.blobL t) = TT at *
  go_enter Tryz.func32, Tryz.ntmps32
  go_wp2_with (first
    | (refine wpList_load_row rfl 39 _ rfl W.heap.size rfl 39 DD (0, 0) _ HN.out und27 rfl (by rw [hDs]; exact info27) ?_; clear HN)
    | (go_at_call 52; refine CS.out.mono ?_; clear CS; rintro e' w1 ⟨rfl, hb1, hc1⟩)
    | (refine wpList_store_row rfl 74 _ _ rfl (W.heap.size + 1) EE rfl rfl 74 (ev [] V.zd V.zd) hc1 (by rw [hes]; exact info75) (by rw [he0, hes]) he1 ?_))
  (try simp only [Exit.inBlock, Exit.then])
  refine bodyPost_ret (results2_rowV rfl _ _ _ 74 EE (0, 0) _ rfl (setRow_heap _ _ _ _ _ _ hc1) hum5 rfl (by rw [hes]; exact info75)) rfl ?_
  exact ⟨rfl, below_setRow hb1 (by omega) _⟩
end Go.Proofs.YtlkllcnnnndllaaGreatDoor
