/- What PutBlob does. -/
import Derived.Test.YtlkllcnnnndllaaGreatDoorN9
namespace Go.Proofs.YtlkllcnnnndllaaGreatDoor
open Go.RowKit Go.Maps
set_option linter.unusedVariables false
set_option linter.unusedSimpArgs false
attribute [local go_sem ↓] zero77
attribute [local go_sem ↓] zero27

/-- two digests of the call's own beside the store -/
structure LD (w : World) (b : HB) (h : Hv) (em : List V.En) (st : H.Sh) (q : Nat) (D : Array Value) (q' : Nat) (W' : World) : Prop where
  l : LK w b h em st 39 zero32 q W'
  c : W'.heap[q']? = some (.cells D 39 (0, 0))
  m : ¬ b.mem q'
theorem LD.step {w W' W'' : World} {b : HB} {h : Hv} {em : List V.En} {st : H.Sh} {q q' : Nat} {D : Array Value} (k : LD w b h em st q D q' W') (hb : Below W'.heap.size W' W'') : LD w b h em st q D q' W'' := ⟨k.l.step hb, by rw [hb.block _ (lt_of_heap k.c)]; exact k.c, k.m⟩
theorem LD.alloc {w W' : World} {b : HB} {h : Hv} {em : List V.En} {st : H.Sh} {q q' : Nat} {D : Array Value} (k : LD w b h em st q D q' W') (o : Obj) : LD w b h em st q D q' (W'.alloc o) := k.step ((Below.refl _ _).alloc (Nat.le_refl _) _)
theorem LD.turn {w W' W'' : World} {b : HB} {h h' : Hv} {em em' : List V.En} {st st' : H.Sh} {q q' : Nat} {D : Array Value} (k : LD w b h em st q D q' W') (y : HX W' b h' em' st' W'') : LD w b h' em' st' q D q' W'' := ⟨k.l.turn y, by rw [y.o.block _ (lt_of_heap k.c) k.m]; exact k.c, k.m⟩
theorem zero32_one : zero32.all (·.oneCell') = true := by rw [← zd_dg]; exact dg_one _

theorem PutBlob_nil (t : ByteArray) (W : World) : Calls Tryz.prog 11 #[.pointer none, .string t] W fun e w' => e = .returned (.tuple #[.agg zero32, .int .i64 2]) ∧ Below W.heap.size W w' := by
  have HN : Hid _ := hst32 W
  have hz3 := zero32_size
  have h31 := zero32_one
  have HB : Hid (Below W.heap.size W (W.alloc (.cells zero32 39))) := (Below.refl _ W).alloc (Nat.le_refl _) _
  go_enter Tryz.func11, Tryz.ntmps11
  go_wp2_with (first
    | (go_at_call 29; refine (reach_nilH _).mono ?_; rintro e w' ⟨rfl, rfl⟩)
    | (refine wpList_store_row rfl 39 _ _ rfl W.heap.size zero32 rfl rfl 39 zero32 HN.out (by rw [hz3]; exact info27) rfl h31 ?_))
  (try simp only [Exit.inBlock, Exit.then])
  refine bodyPost_ret (results2_rowV rfl _ _ _ 39 zero32 (0, 0) _ rfl (setRow_heap _ _ _ _ _ _ HN.out) und27 rfl (by rw [hz3]; exact info27)) rfl ?_
  exact ⟨rfl, below_setRow HB.out (Nat.le_refl _) _⟩

set_option maxRecDepth 8000 in
set_option maxHeartbeats 2000000 in
theorem PutBlob_wide {w W : World} {b : HB} {h : Hv} {st : H.Sh} (x : HW w b h st W) (ho : st.off = false) (hli : st.life = h.life) (t : List UInt8) (ht : 512 < t.length) (ht2 : t.length ≤ 9223372036854775807) :
    Calls Tryz.prog 11 #[.pointer (some ⟨b.hv, 0, none⟩), .string (M.bs t)] W fun e' w' => e' = .returned (.tuple #[.agg zero32, .int .i64 33]) ∧ HW w b h st w' := by
  have hz3 := zero32_size
  have h31 := zero32_one
  have hzt := M.bs_size t
  have hmW : ¬ b.mem W.heap.size := fun hm => by have := HX.lt x hm; omega
  have LX : LK w b h h.es st 39 zero32 W.heap.size (W.alloc (.cells zero32 39)) := ⟨HX.alloc x _, heap_alloc_new _ _, hmW, x.o.size, x.g.z⟩
  have CR : Hid (∀ W', LK w b h h.es st 39 zero32 W.heap.size W' → Calls Tryz.prog 29 #[.pointer (some ⟨b.hv, 0, none⟩)] W' fun e' w' => e' = .returned (.int .i64 0) ∧ LK w b h h.es st 39 zero32 W.heap.size w') := fun W' l => by
    have hr := reach_x (h := h) (st := st) (b := b) (w := w) (W := W') l.x
    rw [show rchE h st = 0 by unfold rchE; rw [if_neg (by simp [ho, hli])]] at hr
    refine hr.mono ?_
    rintro e' w' ⟨rfl, n, rfl⟩
    exact ⟨rfl, l.step (below_drewN (Below.refl _ _) n)⟩
  have ht' : (512 : Int) < (t.length : Int) := by omega
  have ht2' : (t.length : Int) ≤ 9223372036854775807 := by omega
  clear x hmW ho hli ht ht2
  go_enter Tryz.func11, Tryz.ntmps11
  go_wp2_with (first
    | (go_at_call 29; refine (CR.out _ LX).mono ?_; clear CR LX; rintro e' w1 ⟨rfl, LX⟩)
    | (refine wpList_store_row rfl 39 _ _ rfl W.heap.size zero32 rfl rfl 39 zero32 LX.c (by rw [hz3]; exact info27) rfl h31 ?_))
  (try simp only [Exit.inBlock, Exit.then])
  refine bodyPost_ret (results2_rowV rfl _ _ _ 39 zero32 (0, 0) _ rfl (setRow_heap _ _ _ _ _ _ LX.c) und27 rfl (by rw [hz3]; exact info27)) rfl ?_
  exact ⟨rfl, (LX.put zero32).x⟩

set_option maxRecDepth 8000 in
set_option maxHeartbeats 2000000 in
theorem PutBlob_there {w W : World} {b : HB} {h : Hv} {st : H.Sh} (x : HW w b h st W) (ho : st.off = false) (hli : st.life = h.life) (t : List UInt8) (ht : t.length ≤ 512) {h' : Hv} (c : V.Ct) (hcs : (cv c).size = 131)
    (CA0 : ∀ W', HW W' b h st W' → Calls Tryz.prog 30 #[.pointer (some ⟨b.hv, 0, none⟩), .agg (nmv V.kb (S.sha t))] W' fun e' w' => e' = .returned (.tuple #[.agg (cv c), .bool true]) ∧ HW W' b h' st w') :
    Calls Tryz.prog 11 #[.pointer (some ⟨b.hv, 0, none⟩), .string (M.bs t)] W fun e' w' => e' = .returned (.tuple #[.agg (dg (S.sha t)), .int .i64 0]) ∧ HW w b h' st w' := by
  have hz3 := zero32_size
  have h31 := zero32_one
  have hzt := M.bs_size t
  have hmW : ¬ b.mem W.heap.size := fun hm => by have := HX.lt x hm; omega
  have LX : LK w b h h.es st 39 zero32 W.heap.size (W.alloc (.cells zero32 39)) := ⟨HX.alloc x _, heap_alloc_new _ _, hmW, x.o.size, x.g.z⟩
  have CR : Hid (∀ W', LK w b h h.es st 39 zero32 W.heap.size W' → Calls Tryz.prog 29 #[.pointer (some ⟨b.hv, 0, none⟩)] W' fun e' w' => e' = .returned (.int .i64 0) ∧ LK w b h h.es st 39 zero32 W.heap.size w') := fun W' l => by
    have hr := reach_x (h := h) (st := st) (b := b) (w := w) (W := W') l.x
    rw [show rchE h st = 0 by unfold rchE; rw [if_neg (by simp [ho, hli])]] at hr
    refine hr.mono ?_
    rintro e' w' ⟨rfl, n, rfl⟩
    exact ⟨rfl, l.step (below_drewN (Below.refl _ _) n)⟩
  have hsl := S.sha_length t
  obtain ⟨D, hD⟩ : ∃ D, D = S.sha t := ⟨_, rfl⟩
  rw [← hD] at hsl
  have hDs : (dg D).size = 32 := by rw [dg_size, hsl]
  have hD1 := dg_one D
  have hzs := zc_size
  have CO : Hid (∀ W' T, LK w b h h.es st 39 zero32 W.heap.size W' → Calls Tryz.prog 18 #[.slice (some ⟨W'.heap.size, 0, none⟩) 1 1] (W'.alloc (.cells #[.string (M.bs t)] T)) fun e' w' => e' = .returned (.agg (dg D)) ∧ LK w b h h.es st 39 zero32 W.heap.size w') := fun W' T l => by
    refine (Of_g t T (GB.refl l.x.g) (by omega)).mono ?_
    rintro e' w' ⟨rfl, hg⟩
    exact ⟨by rw [hD], l.step hg.b⟩
  have HST : Hid (∀ W : World, (W.alloc (.cells zero32 39)).heap[W.heap.size]? = some (.cells zero32 39 (0, 0))) := hst32
  have HS7 : Hid (∀ W : World, (W.alloc (.cells (cv zc) 76)).heap[W.heap.size]? = some (.cells (cv zc) 76 (0, 0))) := hst77'
  have HLD : Hid (∀ W', LK w b h h.es st 39 zero32 W.heap.size W' → LD w b h h.es st W.heap.size (dg D) W'.heap.size (W'.alloc (.cells (dg D) 39))) := fun W' l => ⟨l.alloc _, heap_alloc_new _ _, fun hm => by have := l.x.lt hm; omega⟩
  have HB73 : Hid (∀ w, (Instr.build 72 #[(0, .string (M.bs V.kb)), (1, .agg (dg D))]).run Tryz.prog w = .ok (.agg (nmv V.kb D)) w) := build73 V.kb D hsl
  have hc1 := cv_one c
  have CA : Hid (∀ {q' : Nat} W', LD w b h h.es st W.heap.size (dg D) q' W' → Calls Tryz.prog 30 #[.pointer (some ⟨b.hv, 0, none⟩), .agg (nmv V.kb D)] W' fun e' w' => e' = .returned (.tuple #[.agg (cv c), .bool true]) ∧ LD w b h' h'.es st W.heap.size (dg D) q' w') := fun W' l => by
    have hh := CA0 W' l.l.x.base
    rw [← hD] at hh
    refine hh.mono ?_
    rintro e' w' ⟨rfl, y⟩; exact ⟨rfl, l.turn y⟩
  have ht' : (t.length : Int) ≤ 512 := by omega
  rw [← hD]
  clear x hmW ho hli ht CA0 hD
  generalize dg D = DD at *
  generalize nmv V.kb D = NM at *
  generalize cv c = CC at *
  go_enter Tryz.func11, Tryz.ntmps11
  go_wp2_with (first
    | (go_at_call 29; refine (CR.out _ LX).mono ?_; clear CR LX; rintro e' w1 ⟨rfl, LX⟩)
    | (go_at_call 18; refine (CO.out _ _ LX).mono ?_; clear CO LX; rintro e' w2 ⟨rfl, LX⟩)
    | (refine wpList_store_row rfl 39 _ _ rfl w2.heap.size DD rfl rfl 39 zero32 (HST.out w2) (by rw [hDs]; exact info27) (by rw [hz3, hDs]) hD1 ?_; clear HST; rw [World.setRow_alloc_new]; have LX := HLD.out _ LX; clear HLD)
    | (refine wpList_load_row rfl 39 _ rfl w2.heap.size rfl 39 DD (0, 0) _ LX.c und27 rfl (by rw [hDs]; exact info27) ?_)
    | (refine wl_build rfl 72 _ rfl _ (by rfl) _ HB73.out ?_; clear HB73)
    | (go_at_call 30; refine (CA.out _ LX).mono ?_; clear CA LX; rintro e' w3 ⟨rfl, LX⟩)
    | (refine wpList_store_row rfl 76 _ _ rfl w3.heap.size CC rfl rfl 76 (cv zc) (HS7.out w3) (by rw [hcs]; exact info77) (by rw [hzs, hcs]) hc1 ?_; clear HS7; rw [World.setRow_alloc_new]; replace LX := LX.alloc (.cells CC 76))
    | (refine wpList_store_row rfl 39 _ _ rfl W.heap.size DD rfl rfl 39 zero32 LX.l.c (by rw [hDs]; exact info27) (by rw [hz3, hDs]) hD1 ?_))
  (try simp only [Exit.inBlock, Exit.then])
  refine bodyPost_ret (results2_rowV rfl _ _ _ 39 DD (0, 0) _ rfl (setRow_heap _ _ _ _ _ _ LX.l.c) und27 rfl (by rw [hDs]; exact info27)) rfl ?_
  exact ⟨rfl, (LX.l.put DD).x⟩

set_option maxRecDepth 8000 in
set_option maxHeartbeats 2000000 in
theorem PutBlob_ok {w W : World} {b : HB} {h : Hv} {st : H.Sh} (x : HW w b h st W) (ho : st.off = false) (hli : st.life = h.life) (t : List UInt8) (ht : t.length ≤ 512) {h1 h2 : Hv} {st2 : H.Sh} 
    (CA0 : ∀ W', HW W' b h st W' → Calls Tryz.prog 30 #[.pointer (some ⟨b.hv, 0, none⟩), .agg (nmv V.kb (S.sha t))] W' fun e' w' => e' = .returned (.tuple #[.agg (cv zc), .bool false]) ∧ HW W' b h1 st w')
    (CP0 : ∀ W', HW W' b h1 st W' → Calls Tryz.prog 31 #[.pointer (some ⟨b.hv, 0, none⟩), .agg (ev V.kb (S.sha t) (S.sha (M.rowB (V.blobL t)))), .string (M.bs (V.sealB (V.blobL t)))] W' fun e' w' => e' = .returned (.int .i64 0) ∧ HW W' b h2 st2 w') :
    Calls Tryz.prog 11 #[.pointer (some ⟨b.hv, 0, none⟩), .string (M.bs t)] W fun e' w' => e' = .returned (.tuple #[.agg (dg (S.sha t)), .int .i64 0]) ∧ HW w b h2 st2 w' := by
  have hz3 := zero32_size
  have h31 := zero32_one
  have hzt := M.bs_size t
  have hmW : ¬ b.mem W.heap.size := fun hm => by have := HX.lt x hm; omega
  have LX : LK w b h h.es st 39 zero32 W.heap.size (W.alloc (.cells zero32 39)) := ⟨HX.alloc x _, heap_alloc_new _ _, hmW, x.o.size, x.g.z⟩
  have CR : Hid (∀ W', LK w b h h.es st 39 zero32 W.heap.size W' → Calls Tryz.prog 29 #[.pointer (some ⟨b.hv, 0, none⟩)] W' fun e' w' => e' = .returned (.int .i64 0) ∧ LK w b h h.es st 39 zero32 W.heap.size w') := fun W' l => by
    have hr := reach_x (h := h) (st := st) (b := b) (w := w) (W := W') l.x
    rw [show rchE h st = 0 by unfold rchE; rw [if_neg (by simp [ho, hli])]] at hr
    refine hr.mono ?_
    rintro e' w' ⟨rfl, n, rfl⟩
    exact ⟨rfl, l.step (below_drewN (Below.refl _ _) n)⟩
  have hsl := S.sha_length t
  obtain ⟨D, hD⟩ : ∃ D, D = S.sha t := ⟨_, rfl⟩
  rw [← hD] at hsl
  have hDs : (dg D).size = 32 := by rw [dg_size, hsl]
  have hD1 := dg_one D
  have hzs := zc_size
  have CO : Hid (∀ W' T, LK w b h h.es st 39 zero32 W.heap.size W' → Calls Tryz.prog 18 #[.slice (some ⟨W'.heap.size, 0, none⟩) 1 1] (W'.alloc (.cells #[.string (M.bs t)] T)) fun e' w' => e' = .returned (.agg (dg D)) ∧ LK w b h h.es st 39 zero32 W.heap.size w') := fun W' T l => by
    refine (Of_g t T (GB.refl l.x.g) (by omega)).mono ?_
    rintro e' w' ⟨rfl, hg⟩
    exact ⟨by rw [hD], l.step hg.b⟩
  have HST : Hid (∀ W : World, (W.alloc (.cells zero32 39)).heap[W.heap.size]? = some (.cells zero32 39 (0, 0))) := hst32
  have HS7 : Hid (∀ W : World, (W.alloc (.cells (cv zc) 76)).heap[W.heap.size]? = some (.cells (cv zc) 76 (0, 0))) := hst77'
  have HLD : Hid (∀ W', LK w b h h.es st 39 zero32 W.heap.size W' → LD w b h h.es st W.heap.size (dg D) W'.heap.size (W'.alloc (.cells (dg D) 39))) := fun W' l => ⟨l.alloc _, heap_alloc_new _ _, fun hm => by have := l.x.lt hm; omega⟩
  have HB73 : Hid (∀ w, (Instr.build 72 #[(0, .string (M.bs V.kb)), (1, .agg (dg D))]).run Tryz.prog w = .ok (.agg (nmv V.kb D)) w) := build73 V.kb D hsl
  have hcs := zc_size
  have hc1 := cv_one zc
  have CA : Hid (∀ {q' : Nat} W', LD w b h h.es st W.heap.size (dg D) q' W' → Calls Tryz.prog 30 #[.pointer (some ⟨b.hv, 0, none⟩), .agg (nmv V.kb D)] W' fun e' w' => e' = .returned (.tuple #[.agg (cv zc), .bool false]) ∧ LD w b h1 h1.es st W.heap.size (dg D) q' w') := fun W' l => by
    have hh := CA0 W' l.l.x.base
    rw [← hD] at hh
    refine hh.mono ?_
    rintro e' w' ⟨rfl, y⟩; exact ⟨rfl, l.turn y⟩
  have CB : Hid (∀ {q' : Nat} W', LD w b h1 h1.es st W.heap.size (dg D) q' W' → Calls Tryz.prog 32 #[.agg (dg D), .string (M.bs t)] W' fun e' w' => e' = .returned (.tuple #[.agg (ev V.kb D (S.sha (M.rowB (V.blobL t)))), .string (M.bs (V.sealB (V.blobL t)))]) ∧ LD w b h1 h1.es st W.heap.size (dg D) q' w') := fun W' l => by
    refine (blobEntry_at D t W' l.l.x.g hsl (by omega)).mono ?_
    rintro e' w' ⟨rfl, hb⟩; exact ⟨rfl, l.step hb⟩
  have CP : Hid (∀ {q' : Nat} W', LD w b h1 h1.es st W.heap.size (dg D) q' W' → Calls Tryz.prog 31 #[.pointer (some ⟨b.hv, 0, none⟩), .agg (ev V.kb D (S.sha (M.rowB (V.blobL t)))), .string (M.bs (V.sealB (V.blobL t)))] W' fun e' w' => e' = .returned (.int .i64 0) ∧ LD w b h2 h2.es st2 W.heap.size (dg D) q' w') := fun W' l => by
    have hh := CP0 W' l.l.x.base
    rw [← hD] at hh
    refine hh.mono ?_
    rintro e' w' ⟨rfl, y⟩; exact ⟨rfl, l.turn y⟩
  have ht' : (t.length : Int) ≤ 512 := by omega
  rw [← hD]
  clear x hmW ho hli ht CA0 CP0 hD
  generalize dg D = DD at *
  generalize nmv V.kb D = NM at *
  generalize ev V.kb D (S.sha (M.rowB (V.blobL t))) = EE at *
  generalize V.sealB (V.blobL t) = TT at *
  go_enter Tryz.func11, Tryz.ntmps11
  go_wp2_with (first
    | (go_at_call 29; refine (CR.out _ LX).mono ?_; clear CR LX; rintro e' w1 ⟨rfl, LX⟩)
    | (go_at_call 18; refine (CO.out _ _ LX).mono ?_; clear CO LX; rintro e' w2 ⟨rfl, LX⟩)
    | (refine wpList_store_row rfl 39 _ _ rfl w2.heap.size DD rfl rfl 39 zero32 (HST.out w2) (by rw [hDs]; exact info27) (by rw [hz3, hDs]) hD1 ?_; clear HST; rw [World.setRow_alloc_new]; have LX := HLD.out _ LX; clear HLD)
    | (refine wpList_load_row rfl 39 _ rfl w2.heap.size rfl 39 DD (0, 0) _ LX.c und27 rfl (by rw [hDs]; exact info27) ?_)
    | (refine wl_build rfl 72 _ rfl _ (by rfl) _ HB73.out ?_; clear HB73)
    | (go_at_call 30; refine (CA.out _ LX).mono ?_; clear CA LX; rintro e' w3 ⟨rfl, LX⟩)
    | (refine wpList_store_row rfl 76 _ _ rfl w3.heap.size (cv zc) rfl rfl 76 (cv zc) (HS7.out w3) (by rw [hcs]; exact info77) rfl hc1 ?_; clear HS7; rw [World.setRow_alloc_new]; replace LX := LX.alloc (.cells (cv zc) 76))
    | (go_at_call 32; refine (CB.out _ LX).mono ?_; clear CB LX; rintro e' w4 ⟨rfl, LX⟩)
    | (go_at_call 31; refine (CP.out _ LX).mono ?_; clear CP LX; rintro e' w5 ⟨rfl, LX⟩)
    | (refine wpList_store_row rfl 39 _ _ rfl W.heap.size DD rfl rfl 39 zero32 LX.l.c (by rw [hDs]; exact info27) (by rw [hz3, hDs]) hD1 ?_))
  (try simp only [Exit.inBlock, Exit.then])
  refine bodyPost_ret (results2_rowV rfl _ _ _ 39 DD (0, 0) _ rfl (setRow_heap _ _ _ _ _ _ LX.l.c) und27 rfl (by rw [hDs]; exact info27)) rfl ?_
  exact ⟨rfl, (LX.l.put DD).x⟩

set_option maxRecDepth 8000 in
set_option maxHeartbeats 2000000 in
theorem PutBlob_err {w W : World} {b : HB} {h : Hv} {st : H.Sh} (x : HW w b h st W) (ho : st.off = false) (hli : st.life = h.life) (t : List UInt8) (ht : t.length ≤ 512) {h1 h2 : Hv} {st2 : H.Sh} (er : Int) (her : er ≠ 0)
    (CA0 : ∀ W', HW W' b h st W' → Calls Tryz.prog 30 #[.pointer (some ⟨b.hv, 0, none⟩), .agg (nmv V.kb (S.sha t))] W' fun e' w' => e' = .returned (.tuple #[.agg (cv zc), .bool false]) ∧ HW W' b h1 st w')
    (CP0 : ∀ W', HW W' b h1 st W' → Calls Tryz.prog 31 #[.pointer (some ⟨b.hv, 0, none⟩), .agg (ev V.kb (S.sha t) (S.sha (M.rowB (V.blobL t)))), .string (M.bs (V.sealB (V.blobL t)))] W' fun e' w' => e' = .returned (.int .i64 er) ∧ HW W' b h2 st2 w') :
    Calls Tryz.prog 11 #[.pointer (some ⟨b.hv, 0, none⟩), .string (M.bs t)] W fun e' w' => e' = .returned (.tuple #[.agg zero32, .int .i64 er]) ∧ HW w b h2 st2 w' := by
  have hz3 := zero32_size
  have h31 := zero32_one
  have hzt := M.bs_size t
  have hmW : ¬ b.mem W.heap.size := fun hm => by have := HX.lt x hm; omega
  have LX : LK w b h h.es st 39 zero32 W.heap.size (W.alloc (.cells zero32 39)) := ⟨HX.alloc x _, heap_alloc_new _ _, hmW, x.o.size, x.g.z⟩
  have CR : Hid (∀ W', LK w b h h.es st 39 zero32 W.heap.size W' → Calls Tryz.prog 29 #[.pointer (some ⟨b.hv, 0, none⟩)] W' fun e' w' => e' = .returned (.int .i64 0) ∧ LK w b h h.es st 39 zero32 W.heap.size w') := fun W' l => by
    have hr := reach_x (h := h) (st := st) (b := b) (w := w) (W := W') l.x
    rw [show rchE h st = 0 by unfold rchE; rw [if_neg (by simp [ho, hli])]] at hr
    refine hr.mono ?_
    rintro e' w' ⟨rfl, n, rfl⟩
    exact ⟨rfl, l.step (below_drewN (Below.refl _ _) n)⟩
  have hsl := S.sha_length t
  obtain ⟨D, hD⟩ : ∃ D, D = S.sha t := ⟨_, rfl⟩
  rw [← hD] at hsl
  have hDs : (dg D).size = 32 := by rw [dg_size, hsl]
  have hD1 := dg_one D
  have hzs := zc_size
  have CO : Hid (∀ W' T, LK w b h h.es st 39 zero32 W.heap.size W' → Calls Tryz.prog 18 #[.slice (some ⟨W'.heap.size, 0, none⟩) 1 1] (W'.alloc (.cells #[.string (M.bs t)] T)) fun e' w' => e' = .returned (.agg (dg D)) ∧ LK w b h h.es st 39 zero32 W.heap.size w') := fun W' T l => by
    refine (Of_g t T (GB.refl l.x.g) (by omega)).mono ?_
    rintro e' w' ⟨rfl, hg⟩
    exact ⟨by rw [hD], l.step hg.b⟩
  have HST : Hid (∀ W : World, (W.alloc (.cells zero32 39)).heap[W.heap.size]? = some (.cells zero32 39 (0, 0))) := hst32
  have HS7 : Hid (∀ W : World, (W.alloc (.cells (cv zc) 76)).heap[W.heap.size]? = some (.cells (cv zc) 76 (0, 0))) := hst77'
  have HLD : Hid (∀ W', LK w b h h.es st 39 zero32 W.heap.size W' → LD w b h h.es st W.heap.size (dg D) W'.heap.size (W'.alloc (.cells (dg D) 39))) := fun W' l => ⟨l.alloc _, heap_alloc_new _ _, fun hm => by have := l.x.lt hm; omega⟩
  have HB73 : Hid (∀ w, (Instr.build 72 #[(0, .string (M.bs V.kb)), (1, .agg (dg D))]).run Tryz.prog w = .ok (.agg (nmv V.kb D)) w) := build73 V.kb D hsl
  have hcs := zc_size
  have hc1 := cv_one zc
  have CA : Hid (∀ {q' : Nat} W', LD w b h h.es st W.heap.size (dg D) q' W' → Calls Tryz.prog 30 #[.pointer (some ⟨b.hv, 0, none⟩), .agg (nmv V.kb D)] W' fun e' w' => e' = .returned (.tuple #[.agg (cv zc), .bool false]) ∧ LD w b h1 h1.es st W.heap.size (dg D) q' w') := fun W' l => by
    have hh := CA0 W' l.l.x.base
    rw [← hD] at hh
    refine hh.mono ?_
    rintro e' w' ⟨rfl, y⟩; exact ⟨rfl, l.turn y⟩
  have CB : Hid (∀ {q' : Nat} W', LD w b h1 h1.es st W.heap.size (dg D) q' W' → Calls Tryz.prog 32 #[.agg (dg D), .string (M.bs t)] W' fun e' w' => e' = .returned (.tuple #[.agg (ev V.kb D (S.sha (M.rowB (V.blobL t)))), .string (M.bs (V.sealB (V.blobL t)))]) ∧ LD w b h1 h1.es st W.heap.size (dg D) q' w') := fun W' l => by
    refine (blobEntry_at D t W' l.l.x.g hsl (by omega)).mono ?_
    rintro e' w' ⟨rfl, hb⟩; exact ⟨rfl, l.step hb⟩
  have CP : Hid (∀ {q' : Nat} W', LD w b h1 h1.es st W.heap.size (dg D) q' W' → Calls Tryz.prog 31 #[.pointer (some ⟨b.hv, 0, none⟩), .agg (ev V.kb D (S.sha (M.rowB (V.blobL t)))), .string (M.bs (V.sealB (V.blobL t)))] W' fun e' w' => e' = .returned (.int .i64 er) ∧ LD w b h2 h2.es st2 W.heap.size (dg D) q' w') := fun W' l => by
    have hh := CP0 W' l.l.x.base
    rw [← hD] at hh
    refine hh.mono ?_
    rintro e' w' ⟨rfl, y⟩; exact ⟨rfl, l.turn y⟩
  have ht' : (t.length : Int) ≤ 512 := by omega
  have hne : (er != 0) = true := by simpa using her
  clear her
  clear x hmW ho hli ht CA0 CP0 hD
  generalize dg D = DD at *
  generalize nmv V.kb D = NM at *
  generalize ev V.kb D (S.sha (M.rowB (V.blobL t))) = EE at *
  generalize V.sealB (V.blobL t) = TT at *
  go_enter Tryz.func11, Tryz.ntmps11
  go_wp2_with (first
    | (go_at_call 29; refine (CR.out _ LX).mono ?_; clear CR LX; rintro e' w1 ⟨rfl, LX⟩)
    | (go_at_call 18; refine (CO.out _ _ LX).mono ?_; clear CO LX; rintro e' w2 ⟨rfl, LX⟩)
    | (refine wpList_store_row rfl 39 _ _ rfl w2.heap.size DD rfl rfl 39 zero32 (HST.out w2) (by rw [hDs]; exact info27) (by rw [hz3, hDs]) hD1 ?_; clear HST; rw [World.setRow_alloc_new]; have LX := HLD.out _ LX; clear HLD)
    | (refine wpList_load_row rfl 39 _ rfl w2.heap.size rfl 39 DD (0, 0) _ LX.c und27 rfl (by rw [hDs]; exact info27) ?_)
    | (refine wl_build rfl 72 _ rfl _ (by rfl) _ HB73.out ?_; clear HB73)
    | (go_at_call 30; refine (CA.out _ LX).mono ?_; clear CA LX; rintro e' w3 ⟨rfl, LX⟩)
    | (refine wpList_store_row rfl 76 _ _ rfl w3.heap.size (cv zc) rfl rfl 76 (cv zc) (HS7.out w3) (by rw [hcs]; exact info77) rfl hc1 ?_; clear HS7; rw [World.setRow_alloc_new]; replace LX := LX.alloc (.cells (cv zc) 76))
    | (go_at_call 32; refine (CB.out _ LX).mono ?_; clear CB LX; rintro e' w4 ⟨rfl, LX⟩)
    | (go_at_call 31; refine (CP.out _ LX).mono ?_; clear CP LX; rintro e' w5 ⟨rfl, LX⟩)
    | (refine wpList_store_row rfl 39 _ _ rfl W.heap.size zero32 rfl rfl 39 zero32 LX.l.c (by rw [hz3]; exact info27) rfl h31 ?_))
  (try simp only [Exit.inBlock, Exit.then])
  refine bodyPost_ret (results2_rowV rfl _ _ _ 39 zero32 (0, 0) _ rfl (setRow_heap _ _ _ _ _ _ LX.l.c) und27 rfl (by rw [hz3]; exact info27)) rfl ?_
  exact ⟨rfl, (LX.l.put zero32).x⟩
end Go.Proofs.YtlkllcnnnndllaaGreatDoor
