/- What hive.decode answers: records; texts that are neither; all. -/
import Derived.Test.YtlkllcnnnndllaaGreatDoorE7
namespace Go.Proofs.YtlkllcnnnndllaaGreatDoor
open Go.RowKit
set_option linter.unusedVariables false
set_option linter.unusedSimpArgs false
attribute [local go_sem ↓] zero35
attribute [local go_sem ↓] zero27
attribute [local go_sem ↓] zero77
attribute [local go_sem ↓] zero73

theorem new2 (W : World) (o p : Obj) : ((W.alloc o).alloc p).heap[W.heap.size + 1]? = some p := by
  have h := heap_alloc_new (W.alloc o) p
  rwa [show (W.alloc o).heap.size = W.heap.size + 1 by simp] at h
theorem setRow2 (W : World) (o : Obj) (Z C : Array Value) (T : TypeId) : ((W.alloc o).alloc (.cells Z T)).setRow (W.heap.size + 1) C = (W.alloc o).alloc (.cells C T) := by
  have h := World.setRow_alloc_new (W.alloc o) Z C T
  rwa [show (W.alloc o).heap.size = W.heap.size + 1 by simp] at h
theorem readRec_some {l : List (List UInt8)} {r : V.Rc} (h : V.readRec l = some r) : Rc32 r := by
  unfold V.readRec at h
  split at h
  · split at h
    · rename_i k a n o hh
      split at h
      · rename_i c hn
        split at h
        · cases h
          have := (M.readNum_some _ _ _ hn).2
          exact ⟨hh.2.1, hh.2.2, this.1, by have := this.2; simp only; omega⟩
        · simp at h
      · simp at h
    · simp at h
  · simp at h

set_option maxRecDepth 8000 in
set_option maxHeartbeats 2000000 in
/-- a record's text -/
theorem decode_r (t : List UInt8) (r : V.Rc) (l : List (List UInt8)) (w : World) (hG : GW w) (hl : t.length ≤ 640) (hu : V.unsl t = some l) (hb : V.readBlob l = none) (hr : V.readRec l = some r) :
    Calls Tryz.prog 53 #[.string (M.bs t)] w fun e w' => e = .returned (dcV (some ⟨V.kr, r.key, t.take 32, [], r⟩)) ∧ Below w.heap.size w w' := by
  obtain ⟨h32, hl4, hx⟩ := unsl_small hu hl
  have hr32 := readRec_some hr
  have hzs := zc_size
  have hz3 := zero32_size
  have hck : (t.take 32).length = 32 := by simp; omega
  have hsl := hr32.k
  have hcs := cv_size (c := ⟨V.kr, r.key, t.take 32, [], r⟩) hsl hck hr32
  have hc1 := cv_one ⟨V.kr, r.key, t.take 32, [], r⟩
  obtain ⟨fs, hum⟩ := und77
  obtain ⟨fs3, hum3⟩ := und73
  obtain ⟨fs5, hum5⟩ := und35
  have hB0 : Below w.heap.size w (w.alloc (.cells (cv zc) 76)) := (Below.refl _ w).alloc (Nat.le_refl _) _
  have HG : GB (w.alloc (.cells (cv zc) 76)) (w.alloc (.cells (cv zc) 76)) := GB.refl (hG.below hB0 hG.z)
  have HE : Hid (∀ W, GB (w.alloc (.cells (cv zc) 76)) W → Below w.heap.size w W ∧ W.heap[w.heap.size]? = some (.cells (cv zc) 76 (0, 0))) := fun W hW => ⟨hB0.trans (hW.b.mono (by simp)), by rw [hW.b.block _ (by simp)]; exact hst77 w⟩
  have CU : Hid (∀ W, GB (w.alloc (.cells (cv zc) 76)) W → Calls Tryz.prog 69 #[.string (M.bs t)] W fun e w' => ∃ a c, e = .returned (.tuple #[.agg (dg (t.take 32)), .slice a l.length c, .bool true]) ∧ Strs w'.heap.size w' (.slice a l.length c) l ∧ GB (w.alloc (.cells (cv zc) 76)) w') := fun W hW => by
    refine (unseal_long t W hW.g h32 hl).mono ?_
    rintro e w' ⟨hb, he⟩
    rw [hu] at he
    obtain ⟨a, c, rfl, hs⟩ := he
    exact ⟨a, c, rfl, hs, hW.step hb⟩
  have CB : Hid (∀ (W : World) a c, Strs W.heap.size W (.slice a l.length c) l → Calls Tryz.prog 70 #[.slice a l.length c] W fun e w' => e = .returned (.tuple #[.string ⟨#[]⟩, .bool false]) ∧ w' = W) := fun W a c hs => by
    have h := readBlob_at l a c W hl4 (fun x hxx => by have := hx x hxx; omega) hs
    rw [hb] at h
    exact h
  have CR : Hid (∀ (W : World) a c, GB (w.alloc (.cells (cv zc) 76)) W → Strs W.heap.size W (.slice a l.length c) l → Calls Tryz.prog 71 #[.slice a l.length c] W fun e w' => e = .returned (.tuple #[.agg (rv r), .bool true]) ∧ GB (w.alloc (.cells (cv zc) 76)) w' ∧ Below W.heap.size W w') := fun W a c hW hs => by
    have h := readRec_at l a c W hl4 (fun x hxx => by have := hx x hxx; omega) hs
    rw [hr] at h
    refine h.mono ?_
    rintro e w' ⟨rfl, hb⟩
    exact ⟨rfl, hW.step hb, hb⟩
  have HST : Hid (∀ W : World, (W.alloc (.cells zero32 39)).heap[W.heap.size]? = some (.cells zero32 39 (0, 0))) := hst32
  have HSR : Hid (∀ W : World, (W.alloc (.cells (rv V.zr) 41)).heap[W.heap.size]? = some (.cells (rv V.zr) 41 (0, 0))) := fun W => heap_alloc_new _ _
  have HSN : Hid (∀ W : World, (W.alloc (.cells (nmv [] V.zd) 72)).heap[W.heap.size]? = some (.cells (nmv [] V.zd) 72 (0, 0))) := fun W => heap_alloc_new _ _
  have HRG : Hid (∀ (W : World) o, (W.alloc (.cells (rv r) 41)).rangeAt W.heap.size 0 (r.key.map vb) ∧ ((W.alloc (.cells (rv r) 41)).alloc o).heap[W.heap.size]? = some (.cells (rv r) 41 (0, 0))) := fun W o =>
    ⟨range_part (heap_alloc_new _ _) [] (r.key.map vb) (.int .i64 r.code :: r.out.map vb) 0 (by simp [rv, rvL]) rfl, by rw [Below.heap_alloc _ _ _ (by simp)]; exact heap_alloc_new _ _⟩
  have hDs : (dg (t.take 32)).size = 32 := by rw [dg_size, hck]
  have hD1 := dg_one (t.take 32)
  have hn0 := nmv_size (k := []) zd_length
  have hns := nmv_size (k := V.kr) hsl
  have hn1 := nmv_one V.kr r.key
  have hrz := rv_size zr32
  have hrs := rv_size hr32
  have hr1 := rv_one r
  have hi : (Tryz.prog.info? 39).map (·.size) = some (r.key.map vb).length := by rw [info27, List.length_map, hsl]
  have b73 := build73 V.kr r.key hsl
  have b75 := build75 V.kr r.key (t.take 32) hsl hck
  have b77 := build77r V.kr r.key (t.take 32) r hsl hck hr32
  simp only [dcV]
  have HB73 : Hid _ := b73
  have HB75 : Hid _ := b75
  have HB77 : Hid _ := b77
  have HKD : Hid ((r.key.map vb).toArray = dg r.key) := rfl
  generalize dg (t.take 32) = DA at *
  generalize dg r.key = DB at *
  generalize nmv V.kr r.key = NB at *
  generalize ev V.kr r.key (t.take 32) = EB at *
  generalize cv ⟨V.kr, r.key, t.take 32, [], r⟩ = CB2 at *
  generalize rv r = RA at *
  clear hG hl hu hB0 hb hx b73 b75 b77 hck hsl hr hr32
  go_enter Tryz.func53, Tryz.ntmps53
  go_wp2_with (first
    | (go_at_call 69; refine (CU.out _ HG).mono ?_; clear CU HG; rintro e w1 ⟨a, c, rfl, HS1, HG⟩)
    | (refine wpList_store_row rfl 39 _ _ rfl w1.heap.size DA rfl rfl 39 zero32 (HST.out w1) (by rw [hDs]; exact info27) (by rw [hz3, hDs]) hD1 ?_; clear HST; rw [World.setRow_alloc_new]; replace HG := HG.alloc (.cells DA 39); have HS2 : Strs (w1.alloc (.cells DA 39)).heap.size (w1.alloc (.cells DA 39)) (.slice a l.length c) l := HS1.below ((Below.refl _ w1).alloc (Nat.le_refl _) _) (by simp))
    | (go_at_call 70; refine (CB.out _ _ _ HS2).mono ?_; clear CB; rintro e w9 ⟨rfl, rfl⟩)
    | (go_at_call 71; refine (CR.out _ _ _ HG HS2).mono ?_; clear CR HS2; rintro e w2 ⟨rfl, HG2, HBB⟩)
    | (refine wpList_store_row rfl 41 _ _ rfl w2.heap.size RA rfl rfl 41 (rv V.zr) (HSR.out w2) (by rw [hrs]; exact info35) (by rw [hrz, hrs]) hr1 ?_; clear HSR; rw [World.setRow_alloc_new]; have HR1 : Hid _ := (HRG.out w2 (.cells NB 72)).1; have HR2 : Hid _ := (HRG.out w2 (.cells NB 72)).2)
    | (refine wpList_load_mid rfl 39 _ rfl w2.heap.size 0 rfl (r.key.map vb) _ HR1.out und27 rfl hi ?_; rw [HKD.out]; clear HR1)
    | (refine wl_build rfl 72 _ rfl _ (by rfl) _ HB73.out ?_; clear HB73)
    | (refine wpList_store_row rfl 72 _ _ rfl (w2.heap.size + 1) NB rfl rfl 72 (nmv [] V.zd) (new2 _ _ _) (by rw [hns]; exact info73) (by rw [hn0, hns]) hn1 ?_; clear HSN; rw [setRow2]; replace HG := (HG2.alloc (.cells RA 41)).alloc (.cells NB 72); have HN : Hid _ := (HE.out _ HG).2; have HF : Hid _ := (HE.out _ HG).1; have f3 : ((w2.alloc (.cells RA 41)).alloc (.cells NB 72)).heap[w2.heap.size + 1]? = some (.cells NB 72 (0, 0)) := new2 _ _ _; have f4 : ((w2.alloc (.cells RA 41)).alloc (.cells NB 72)).heap[w1.heap.size]? = some (.cells DA 39 (0, 0)) := by (have hsz := HBB.size; simp at hsz; rw [Below.heap_alloc _ _ _ (by simp; omega), Below.heap_alloc _ _ _ (by omega), HBB.block _ (by simp)]; exact heap_alloc_new _ _))
    | (refine wpList_load_row rfl 72 _ rfl (w2.heap.size + 1) rfl 72 NB (0, 0) _ f3 hum3 rfl (by rw [hns]; exact info73) ?_)
    | (refine wpList_load_row rfl 39 _ rfl w1.heap.size rfl 39 DA (0, 0) _ f4 und27 rfl (by rw [hDs]; exact info27) ?_)
    | (refine wpList_load_row rfl 41 _ rfl w2.heap.size rfl 41 RA (0, 0) _ HR2.out hum5 rfl (by rw [hrs]; exact info35) ?_)
    | (refine wl_build rfl 74 _ rfl _ (by rfl) _ HB75.out ?_; clear HB75)
    | (refine wl_build rfl 76 _ rfl _ (by rfl) _ HB77.out ?_; clear HB77)
    | (refine wpList_store_row rfl 76 _ _ rfl w.heap.size CB2 rfl rfl 76 (cv zc) HN.out (by rw [hcs]; exact info77) (by rw [hzs, hcs]) hc1 ?_))
  (try simp only [Exit.inBlock, Exit.then])
  refine bodyPost_ret (results2_rowV rfl _ _ _ 76 CB2 (0, 0) _ rfl (setRow_heap _ _ _ _ _ _ HN.out) hum rfl (by rw [hcs]; exact info77)) rfl ?_
  exact ⟨rfl, below_setRow HF.out (Nat.le_refl _) _⟩

set_option maxRecDepth 8000 in
set_option maxHeartbeats 2000000 in
/-- neither a blob's nor a record's -/
theorem decode_x (t : List UInt8) (l : List (List UInt8)) (w : World) (hG : GW w) (hl : t.length ≤ 640) (hu : V.unsl t = some l) (hb : V.readBlob l = none) (hr : V.readRec l = none) :
    Calls Tryz.prog 53 #[.string (M.bs t)] w fun e w' => e = .returned (dcV none) ∧ Below w.heap.size w w' := by
  obtain ⟨h32, hl4, hx⟩ := unsl_small hu hl
  have hzs := zc_size
  have hz3 := zero32_size
  have hck : (t.take 32).length = 32 := by simp; omega
  have hc1 := cv_one zc
  obtain ⟨fs, hum⟩ := und77
  have hB0 : Below w.heap.size w (w.alloc (.cells (cv zc) 76)) := (Below.refl _ w).alloc (Nat.le_refl _) _
  have HG : GB (w.alloc (.cells (cv zc) 76)) (w.alloc (.cells (cv zc) 76)) := GB.refl (hG.below hB0 hG.z)
  have HE : Hid (∀ W, GB (w.alloc (.cells (cv zc) 76)) W → Below w.heap.size w W ∧ W.heap[w.heap.size]? = some (.cells (cv zc) 76 (0, 0))) := fun W hW => ⟨hB0.trans (hW.b.mono (by simp)), by rw [hW.b.block _ (by simp)]; exact hst77 w⟩
  have CU : Hid (∀ W, GB (w.alloc (.cells (cv zc) 76)) W → Calls Tryz.prog 69 #[.string (M.bs t)] W fun e w' => ∃ a c, e = .returned (.tuple #[.agg (dg (t.take 32)), .slice a l.length c, .bool true]) ∧ Strs w'.heap.size w' (.slice a l.length c) l ∧ GB (w.alloc (.cells (cv zc) 76)) w') := fun W hW => by
    refine (unseal_long t W hW.g h32 hl).mono ?_
    rintro e w' ⟨hb, he⟩
    rw [hu] at he
    obtain ⟨a, c, rfl, hs⟩ := he
    exact ⟨a, c, rfl, hs, hW.step hb⟩
  have CB : Hid (∀ (W : World) a c, Strs W.heap.size W (.slice a l.length c) l → Calls Tryz.prog 70 #[.slice a l.length c] W fun e w' => e = .returned (.tuple #[.string ⟨#[]⟩, .bool false]) ∧ w' = W) := fun W a c hs => by
    have h := readBlob_at l a c W hl4 (fun x hxx => by have := hx x hxx; omega) hs
    rw [hb] at h
    exact h
  have CR : Hid (∀ (W : World) a c, GB (w.alloc (.cells (cv zc) 76)) W → Strs W.heap.size W (.slice a l.length c) l → Calls Tryz.prog 71 #[.slice a l.length c] W fun e w' => e = .returned (.tuple #[.agg (rv V.zr), .bool false]) ∧ GB (w.alloc (.cells (cv zc) 76)) w' ∧ Below W.heap.size W w') := fun W a c hW hs => by
    have h := readRec_at l a c W hl4 (fun x hxx => by have := hx x hxx; omega) hs
    rw [hr] at h
    refine h.mono ?_
    rintro e w' ⟨rfl, hb⟩
    exact ⟨rfl, hW.step hb, hb⟩
  have HST : Hid (∀ W : World, (W.alloc (.cells zero32 39)).heap[W.heap.size]? = some (.cells zero32 39 (0, 0))) := hst32
  have HSR : Hid (∀ W : World, (W.alloc (.cells (rv V.zr) 41)).heap[W.heap.size]? = some (.cells (rv V.zr) 41 (0, 0))) := fun W => heap_alloc_new _ _
  have hDs : (dg (t.take 32)).size = 32 := by rw [dg_size, hck]
  have hD1 := dg_one (t.take 32)
  have hrz := rv_size zr32
  have hr1 := rv_one V.zr
  simp only [dcV]
  generalize dg (t.take 32) = DA at *
  clear hG hl hu hB0 hb hx hck hr
  go_enter Tryz.func53, Tryz.ntmps53
  go_wp2_with (first
    | (go_at_call 69; refine (CU.out _ HG).mono ?_; clear CU HG; rintro e w1 ⟨a, c, rfl, HS1, HG⟩)
    | (refine wpList_store_row rfl 39 _ _ rfl w1.heap.size DA rfl rfl 39 zero32 (HST.out w1) (by rw [hDs]; exact info27) (by rw [hz3, hDs]) hD1 ?_; clear HST; rw [World.setRow_alloc_new]; replace HG := HG.alloc (.cells DA 39); have HS2 : Strs (w1.alloc (.cells DA 39)).heap.size (w1.alloc (.cells DA 39)) (.slice a l.length c) l := HS1.below ((Below.refl _ w1).alloc (Nat.le_refl _) _) (by simp))
    | (go_at_call 70; refine (CB.out _ _ _ HS2).mono ?_; clear CB; rintro e w9 ⟨rfl, rfl⟩)
    | (go_at_call 71; refine (CR.out _ _ _ HG HS2).mono ?_; clear CR HS2; rintro e w2 ⟨rfl, HG2, HBB⟩)
    | (refine wpList_store_row rfl 41 _ _ rfl w2.heap.size (rv V.zr) rfl rfl 41 (rv V.zr) (HSR.out w2) (by rw [hrz]; exact info35) rfl hr1 ?_; clear HSR; rw [World.setRow_alloc_new]; replace HG := HG2.alloc (.cells (rv V.zr) 41); have HN : Hid _ := (HE.out _ HG).2; have HF : Hid _ := (HE.out _ HG).1)
    | (refine wpList_store_row rfl 76 _ _ rfl w.heap.size (cv zc) rfl rfl 76 (cv zc) HN.out (by rw [hzs]; exact info77) rfl hc1 ?_))
  (try simp only [Exit.inBlock, Exit.then])
  refine bodyPost_ret (results2_rowV rfl _ _ _ 76 (cv zc) (0, 0) _ rfl (setRow_heap _ _ _ _ _ _ HN.out) hum rfl (by rw [hzs]; exact info77)) rfl ?_
  exact ⟨rfl, below_setRow HF.out (Nat.le_refl _) _⟩

/-- WHAT decode ANSWERS -/
theorem decode_at (t : List UInt8) (w : World) (hG : GW w) (hl : t.length ≤ 640) :
    Calls Tryz.prog 53 #[.string (M.bs t)] w fun e w' => e = .returned (dcV (V.decode t)) ∧ Below w.heap.size w w' := by
  unfold V.decode
  cases hu : V.unsl t with
  | none => exact decode_no t w hG hl hu
  | some l =>
    cases hb : V.readBlob l with
    | some b =>
      simp only [hb]
      exact decode_b t b l w hG hl hu hb
    | none =>
      cases hr : V.readRec l with
      | some r =>
        simp only [hb, hr]
        exact decode_r t r l w hG hl hu hb hr
      | none =>
        simp only [hb, hr]
        exact decode_x t l w hG hl hu hb hr
end Go.Proofs.YtlkllcnnnndllaaGreatDoor
