/- HedgeParts: a range's records are those of its parts. -/
import Derived.Test.YtfbjakhanjbaeaaDoorHqa
namespace Go.Proofs.YtfbjakhanjbaeaaDoor
open Go.RowKit Go.Maps Go.Sort Go.Shelf Go.Lib
set_option linter.unusedVariables false
set_option linter.unusedSimpArgs false
attribute [local go_sem ↓] zRgW

set_option maxHeartbeats 2000000 in
set_option maxRecDepth 8000 in
theorem pa_long (l : List HG.R) (v : Value) (r : HG.G) (k : List UInt8) (hk : k.length = 32) (w : World) (hG : GW w) (hv : SL w v l) (hl : 80 < l.length) :
    Calls Tryd.prog 4 #[v, .agg (fG r).toArray, .agg (dg k)] w fun e w' => e = .returned (.bool true) ∧ Bl w w' := by
  obtain ⟨a, c, rfl, hrs, hnn⟩ := hv
  have hv : SL w (.slice a l.length c) l := ⟨a, c, rfl, hrs, hnn⟩
  clear hrs hnn
  obtain ⟨W2, hW2⟩ : ∃ W2, W2 = (w.alloc (.cells (fG r).toArray 26)).alloc (.cells (dg k) 24) := ⟨_, rfl⟩
  have hB2 : Bl w W2 := by rw [hW2]; exact ((Bl.refl w).alloc _).alloc _
  have h0 : W2.heap[w.heap.size]? = some (.cells (fG r).toArray 26 (0, 0)) := by
    rw [hW2, Below.heap_alloc _ _ _ (by simp)]; exact heap_alloc_new _ _
  have h1 : W2.heap[w.heap.size + 1]? = some (.cells (dg k) 24 (0, 0)) := by
    rw [hW2]
    have := heap_alloc_new (w.alloc (.cells (fG r).toArray 26)) (.cells (dg k) 24)
    rwa [World.size_alloc] at this
  have HBX : Hid (∀ U, Bl W2 U → U.rangeAt w.heap.size 0 (fG r) ∧ U.rangeAt (w.heap.size + 1) 0 (k.map vb) ∧ U.cell? ⟨w.heap.size, 0, none⟩ = some (.int .i64 r.d) ∧ U.cell? ⟨w.heap.size, 1, none⟩ = some (.int .i64 r.p)) := fun U h => by
    have k0 := Bl.heap h h0
    exact ⟨range_of k0, rng_of (Bl.heap h h1) rfl, cell_of_row _ _ 0 _ _ _ k0, cell_of_row _ _ 1 _ _ _ k0⟩
  have CA := hidI (fun U (h : Bl W2 U) => awake_15 U (hG.below (bl_tr hB2 h) hG.z))
  have CGd := hidI (fun U => Good_gn r U)
  have HB2 := hidI hB2
  have HW2 := hidI hW2
  have HIG := hidI (one_infoG r)
  have HIK : Hid ((Tryd.prog.info? 24).map (·.size) = some (k.map vb).length) := by
    show _ = _
    rw [List.length_map, hk]; exact info27
  have hsz : (fG r).toArray.size = 35 := by simp [fG_len]
  have hsk : (dg k).size = 32 := by rw [dg_size, hk]
  obtain ⟨gs, huG⟩ := undRg
  obtain ⟨n, hn⟩ : ∃ n, n = l.length := ⟨_, rfl⟩
  rw [← hn] at hl ⊢
  have hlz : (n : Int) > 80 := by omega
  clear hG hv hB2 h0 h1 hW2 hn
  generalize fG r = FG at *
  generalize dg k = DK at *
  generalize k.map vb = KL at *
  go_enter Tryd.func4, Tryd.ntmps4
  go_wp2_with (first
    | go_skip
    | (go_at_call 8; rw [← HW2.out]; refine (CA.out _ (Bl.refl _)).mono ?_; clear CA; rintro e w1 ⟨rfl, b1⟩; have HC1 := hidI b1; clear b1)
    | (refine wl_midG (by rfl) 26 _ rfl w.heap.size 0 rfl FG _ (HBX.out _ HC1.out).1 huG rfl HIG.out ?_)
    | (go_at_call 19; refine (CGd.out _).mono ?_; clear CGd; rintro e w2 ⟨rfl, g2⟩; have HC2 := hidI (HC1.out.step (gn_bl g2)); clear HC1 g2))
  go_ret
  exact ⟨rfl, HB2.out.step HC1.out⟩
set_option maxHeartbeats 2000000 in
set_option maxRecDepth 8000 in
theorem pa_bad (l : List HG.R) (v : Value) (r : HG.G) (k : List UInt8) (hk : k.length = 32) (w : World) (hG : GW w) (hv : SL w v l) (hl : l.length ≤ 80) (hg : HG.good r = false) :
    Calls Tryd.prog 4 #[v, .agg (fG r).toArray, .agg (dg k)] w fun e w' => e = .returned (.bool true) ∧ Bl w w' := by
  obtain ⟨a, c, rfl, hrs, hnn⟩ := hv
  have hv : SL w (.slice a l.length c) l := ⟨a, c, rfl, hrs, hnn⟩
  clear hrs hnn
  obtain ⟨W2, hW2⟩ : ∃ W2, W2 = (w.alloc (.cells (fG r).toArray 26)).alloc (.cells (dg k) 24) := ⟨_, rfl⟩
  have hB2 : Bl w W2 := by rw [hW2]; exact ((Bl.refl w).alloc _).alloc _
  have h0 : W2.heap[w.heap.size]? = some (.cells (fG r).toArray 26 (0, 0)) := by
    rw [hW2, Below.heap_alloc _ _ _ (by simp)]; exact heap_alloc_new _ _
  have h1 : W2.heap[w.heap.size + 1]? = some (.cells (dg k) 24 (0, 0)) := by
    rw [hW2]
    have := heap_alloc_new (w.alloc (.cells (fG r).toArray 26)) (.cells (dg k) 24)
    rwa [World.size_alloc] at this
  have HBX : Hid (∀ U, Bl W2 U → U.rangeAt w.heap.size 0 (fG r) ∧ U.rangeAt (w.heap.size + 1) 0 (k.map vb) ∧ U.cell? ⟨w.heap.size, 0, none⟩ = some (.int .i64 r.d) ∧ U.cell? ⟨w.heap.size, 1, none⟩ = some (.int .i64 r.p)) := fun U h => by
    have k0 := Bl.heap h h0
    exact ⟨range_of k0, rng_of (Bl.heap h h1) rfl, cell_of_row _ _ 0 _ _ _ k0, cell_of_row _ _ 1 _ _ _ k0⟩
  have CA := hidI (fun U (h : Bl W2 U) => awake_15 U (hG.below (bl_tr hB2 h) hG.z))
  have CGd := hidI (fun U => Good_gn r U)
  have HB2 := hidI hB2
  have HW2 := hidI hW2
  have HIG := hidI (one_infoG r)
  have HIK : Hid ((Tryd.prog.info? 24).map (·.size) = some (k.map vb).length) := by
    show _ = _
    rw [List.length_map, hk]; exact info27
  have hsz : (fG r).toArray.size = 35 := by simp [fG_len]
  have hsk : (dg k).size = 32 := by rw [dg_size, hk]
  obtain ⟨gs, huG⟩ := undRg
  obtain ⟨n, hn⟩ : ∃ n, n = l.length := ⟨_, rfl⟩
  rw [← hn] at hl ⊢
  have hlz : ¬ (n : Int) > 80 := by omega
  have hdl : decide ((n : Int) > 80) = false := decide_eq_false hlz
  rw [hg] at CGd
  clear hG hv hB2 h0 h1 hW2 hn hg
  generalize fG r = FG at *
  generalize dg k = DK at *
  generalize k.map vb = KL at *
  go_enter Tryd.func4, Tryd.ntmps4
  go_wp2_with (first
    | go_skip
    | (go_at_call 8; rw [← HW2.out]; refine (CA.out _ (Bl.refl _)).mono ?_; clear CA; rintro e w1 ⟨rfl, b1⟩; have HC1 := hidI b1; clear b1)
    | (refine wl_midG (by rfl) 26 _ rfl w.heap.size 0 rfl FG _ (HBX.out _ HC1.out).1 huG rfl HIG.out ?_)
    | (go_at_call 19; refine (CGd.out _).mono ?_; clear CGd; rintro e w2 ⟨rfl, g2⟩; have HC2 := hidI (HC1.out.step (gn_bl g2)); clear HC1 g2))
  go_ret
  exact ⟨rfl, HB2.out.step HC2.out⟩
set_option maxHeartbeats 2000000 in
set_option maxRecDepth 8000 in
theorem pa_deep (l : List HG.R) (v : Value) (r : HG.G) (k : List UInt8) (hk : k.length = 32) (w : World) (hG : GW w) (hv : SL w v l) (hl : l.length ≤ 80) (hg : HG.good r = true) (he : (r.d == 8) = true) :
    Calls Tryd.prog 4 #[v, .agg (fG r).toArray, .agg (dg k)] w fun e w' => e = .returned (.bool true) ∧ Bl w w' := by
  obtain ⟨a, c, rfl, hrs, hnn⟩ := hv
  have hv : SL w (.slice a l.length c) l := ⟨a, c, rfl, hrs, hnn⟩
  clear hrs hnn
  obtain ⟨W2, hW2⟩ : ∃ W2, W2 = (w.alloc (.cells (fG r).toArray 26)).alloc (.cells (dg k) 24) := ⟨_, rfl⟩
  have hB2 : Bl w W2 := by rw [hW2]; exact ((Bl.refl w).alloc _).alloc _
  have h0 : W2.heap[w.heap.size]? = some (.cells (fG r).toArray 26 (0, 0)) := by
    rw [hW2, Below.heap_alloc _ _ _ (by simp)]; exact heap_alloc_new _ _
  have h1 : W2.heap[w.heap.size + 1]? = some (.cells (dg k) 24 (0, 0)) := by
    rw [hW2]
    have := heap_alloc_new (w.alloc (.cells (fG r).toArray 26)) (.cells (dg k) 24)
    rwa [World.size_alloc] at this
  have HBX : Hid (∀ U, Bl W2 U → U.rangeAt w.heap.size 0 (fG r) ∧ U.rangeAt (w.heap.size + 1) 0 (k.map vb) ∧ U.cell? ⟨w.heap.size, 0, none⟩ = some (.int .i64 r.d) ∧ U.cell? ⟨w.heap.size, 1, none⟩ = some (.int .i64 r.p)) := fun U h => by
    have k0 := Bl.heap h h0
    exact ⟨range_of k0, rng_of (Bl.heap h h1) rfl, cell_of_row _ _ 0 _ _ _ k0, cell_of_row _ _ 1 _ _ _ k0⟩
  have CA := hidI (fun U (h : Bl W2 U) => awake_15 U (hG.below (bl_tr hB2 h) hG.z))
  have CGd := hidI (fun U => Good_gn r U)
  have HB2 := hidI hB2
  have HW2 := hidI hW2
  have HIG := hidI (one_infoG r)
  have HIK : Hid ((Tryd.prog.info? 24).map (·.size) = some (k.map vb).length) := by
    show _ = _
    rw [List.length_map, hk]; exact info27
  have hsz : (fG r).toArray.size = 35 := by simp [fG_len]
  have hsk : (dg k).size = 32 := by rw [dg_size, hk]
  obtain ⟨gs, huG⟩ := undRg
  obtain ⟨n, hn⟩ : ∃ n, n = l.length := ⟨_, rfl⟩
  have hcp : HG.canP r = false := by unfold HG.canP; rw [hg, he]; rfl
  have CPt : Hid (∀ U, Bl W2 U → Calls Tryd.prog 11 #[.agg (fG r).toArray, .slice a l.length c] U fun e w' => ∃ a c, e = .returned (.tuple #[.slice a 0 c, .int .i64 1]) ∧ Bl U w') := fun U h => by
    have := Parts_x r l _ U (hG.below (bl_tr hB2 h) hG.z) (hv.bl (bl_tr hB2 h)) (by omega)
    refine Calls.mono this ?_
    rintro e w' ⟨v', rfl, o, b⟩
    unfold HG.parts HG.parE at *
    rw [hcp] at o ⊢
    obtain ⟨a, c, rfl, _⟩ := owns_rs lyG (ks := []) o
    exact ⟨a, c, rfl, b⟩
  rw [← hn] at hl CPt ⊢
  have hlz : ¬ (n : Int) > 80 := by omega
  have hdl : decide ((n : Int) > 80) = false := decide_eq_false hlz
  rw [hg] at CGd
  clear hG hv hB2 h0 h1 hW2 hn hg hcp
  generalize fG r = FG at *
  generalize dg k = DK at *
  generalize k.map vb = KL at *
  generalize r.d = d at *
  generalize r.p = p at *
  go_enter Tryd.func4, Tryd.ntmps4
  go_wp2_with (first
    | go_skip
    | (go_at_call 8; rw [← HW2.out]; refine (CA.out _ (Bl.refl _)).mono ?_; clear CA; rintro e w1 ⟨rfl, b1⟩; have HC1 := hidI b1; clear b1)
    | (refine wl_midG (by rfl) 26 _ rfl w.heap.size 0 rfl FG _ (HBX.out _ HC1.out).1 huG rfl HIG.out ?_)
    | (go_at_call 19; refine (CGd.out _).mono ?_; clear CGd; rintro e w2 ⟨rfl, g2⟩; have HC2 := hidI (HC1.out.step (gn_bl g2)); clear HC1 g2)
    | (refine wl_midG (by rfl) 26 _ rfl w.heap.size 0 rfl FG _ (HBX.out _ HC2.out).1 huG rfl HIG.out ?_)
    | (go_at_call 11; refine (CPt.out _ HC2.out).mono ?_; clear CPt; rintro e w3 ⟨a3, c3, rfl, b3⟩; have HC3 := hidI (HC2.out.step b3); obtain ⟨_, _, y0, _⟩ := HBX.out _ HC3.out; clear b3 HC2))
  go_ret
  exact ⟨rfl, HB2.out.step HC3.out⟩
set_option maxHeartbeats 8000000 in
set_option maxRecDepth 8000 in
theorem pa_main (l : List HG.R) (v : Value) (r : HG.G) (k : List UInt8) (hk : k.length = 32) (w : World) (hG : GW w) (hv : SL w v l) (hl : l.length ≤ 80) (hcp : HG.canP r = true) :
    Calls Tryd.prog 4 #[v, .agg (fG r).toArray, .agg (dg k)] w fun e w' => e = .returned (.bool true) ∧ Bl w w' := by
  obtain ⟨a, c, rfl, hrs, hnn⟩ := hv
  have hv : SL w (.slice a l.length c) l := ⟨a, c, rfl, hrs, hnn⟩
  clear hrs hnn
  obtain ⟨W2, hW2⟩ : ∃ W2, W2 = (w.alloc (.cells (fG r).toArray 26)).alloc (.cells (dg k) 24) := ⟨_, rfl⟩
  have hB2 : Bl w W2 := by rw [hW2]; exact ((Bl.refl w).alloc _).alloc _
  have h0 : W2.heap[w.heap.size]? = some (.cells (fG r).toArray 26 (0, 0)) := by
    rw [hW2, Below.heap_alloc _ _ _ (by simp)]; exact heap_alloc_new _ _
  have h1 : W2.heap[w.heap.size + 1]? = some (.cells (dg k) 24 (0, 0)) := by
    rw [hW2]
    have := heap_alloc_new (w.alloc (.cells (fG r).toArray 26)) (.cells (dg k) 24)
    rwa [World.size_alloc] at this
  have HBX : Hid (∀ U, Bl W2 U → U.rangeAt w.heap.size 0 (fG r) ∧ U.rangeAt (w.heap.size + 1) 0 (k.map vb) ∧ U.cell? ⟨w.heap.size, 0, none⟩ = some (.int .i64 r.d) ∧ U.cell? ⟨w.heap.size, 1, none⟩ = some (.int .i64 r.p)) := fun U h => by
    have k0 := Bl.heap h h0
    exact ⟨range_of k0, rng_of (Bl.heap h h1) rfl, cell_of_row _ _ 0 _ _ _ k0, cell_of_row _ _ 1 _ _ _ k0⟩
  have CA := hidI (fun U (h : Bl W2 U) => awake_15 U (hG.below (bl_tr hB2 h) hG.z))
  have CGd := hidI (fun U => Good_gn r U)
  have HB2 := hidI hB2
  have HW2 := hidI hW2
  have HIG := hidI (one_infoG r)
  have HIK : Hid ((Tryd.prog.info? 24).map (·.size) = some (k.map vb).length) := by
    show _ = _
    rw [List.length_map, hk]; exact info27
  have hsz : (fG r).toArray.size = 35 := by simp [fG_len]
  have hsk : (dg k).size = 32 := by rw [dg_size, hk]
  obtain ⟨gs, huG⟩ := undRg
  obtain ⟨n, hn⟩ : ∃ n, n = l.length := ⟨_, rfl⟩
  have hl1 : l.length ≤ 1000 := by omega
  obtain ⟨d0, d1, p0, p1, hg⟩ := HG.can_of hcp
  have he : (r.d == 8) = false := by simp; omega
  obtain ⟨PL, hPL⟩ : ∃ PL : Nat → List Value, PL = fun i => fG (HG.part r l i) := ⟨_, rfl⟩
  have CPt : Hid (∀ U, Bl W2 U → Calls Tryd.prog 11 #[.agg (fG r).toArray, .slice a l.length c] U fun e w' => ∃ a c, e = .returned (.tuple #[.slice a 4 c, .int .i64 0]) ∧ (∀ i, i < 4 → ∃ b o, a = some ⟨b, o, none⟩ ∧ b < w'.heap.size ∧ w'.rangeAt b (o + i * 35) (PL i)) ∧ Bl U w') := fun U h => by
    have := Parts_x r l _ U (hG.below (bl_tr hB2 h) hG.z) (hv.bl (bl_tr hB2 h)) hl1
    refine Calls.mono this ?_
    rintro e w' ⟨v', rfl, o, b⟩
    unfold HG.parts HG.parE at *
    rw [hcp] at o ⊢
    simp only [if_true] at o ⊢
    obtain ⟨a, c, rfl, hr⟩ := owns_rs lyG (ks := (List.range 4).map (HG.part r l)) o
    refine ⟨a, c, rfl, fun i hi => ?_, b⟩
    obtain ⟨b, o, e1, e2, e3⟩ := hr i (HG.part r l i) (by rw [List.getElem?_map, List.getElem?_range hi]; rfl)
    rw [hPL]
    exact ⟨b, o, e1, e2, e3⟩
  have CIt : Hid (∀ i U, Bl W2 U → Calls Tryd.prog 15 #[.agg (PL i).toArray, .slice a l.length c] U fun e w' => ∃ a c, e = .returned (.slice a (HG.items (HG.part r l i) l).length c) ∧ RS lyR w' a (HG.items (HG.part r l i) l) ∧ Bl U w') := fun i U h => by
    have := Items_x (HG.part r l i) l _ U (hv.bl (bl_tr hB2 h)) hl1
    rw [hPL]
    refine Calls.mono this ?_
    rintro e w' ⟨v', rfl, o, b⟩
    obtain ⟨a, c, rfl, hr⟩ := owns_rs lyR (ks := HG.items (HG.part r l i) l) o
    exact ⟨a, c, rfl, hr, b⟩
  have CGp : Hid (∀ i, i < 4 → ∀ U, Calls Tryd.prog 19 #[.agg (PL i).toArray] U fun e w' => e = .returned (.bool true) ∧ Gn U w') := fun i hi U => by
    have := Good_gn (HG.part r l i) U
    rw [HG.part_good hcp l hl1 i hi] at this; rw [hPL]; exact this
  have CIn : Hid (∀ i U, Calls Tryd.prog 21 #[.agg (PL i).toArray, .agg (k.map vb).toArray] U fun e w' => e = .returned (.bool (HG.inn (HG.part r l i) k)) ∧ Gn U w') := fun i U => by rw [hPL]; exact In_gn _ k hk U
  have CInr : Hid (∀ U, Calls Tryd.prog 21 #[.agg (fG r).toArray, .agg (k.map vb).toArray] U fun e w' => e = .returned (.bool (HG.inn r k)) ∧ Gn U w') := fun U => In_gn _ k hk U
  have hplr : HG.pl r.d r.p = true := by unfold HG.good at hg; rw [Bool.and_eq_true] at hg; exact hg.1
  obtain ⟨GL, hGL⟩ : ∃ GL, GL = fG (HG.rng r.d r.p l) := ⟨_, rfl⟩
  have COf : Hid (∀ U, Bl W2 U → Calls Tryd.prog 9 #[.int .i64 r.d, .int .i64 r.p, .slice a l.length c] U fun e w' => e = .returned (.tuple #[.agg GL.toArray, .int .i64 0]) ∧ Bl U w') := fun U h => by
    have := Of_x r.d r.p l _ U (hG.below (bl_tr hB2 h) hG.z) (hv.bl (bl_tr hB2 h)) hl1
    unfold HG.ofG HG.ofE at this
    rw [hplr] at this
    simp only [if_true] at this
    rw [hGL]; exact this
  have hir : HG.items r l = HG.items (HG.g0 r.d r.p) l := HG.items_eq r l (HG.good_n hg)
  have CIr : Hid (∀ U, Bl W2 U → Calls Tryd.prog 15 #[.agg (fG r).toArray, .slice a l.length c] U fun e w' => ∃ v', e = .returned v' ∧ SL w' v' (HG.allN r l 4) ∧ Bl U w') := fun U h => by
    have := Items_x r l _ U (hv.bl (bl_tr hB2 h)) hl1
    refine Calls.mono this ?_
    rintro e w' ⟨v', rfl, o, b⟩
    exact ⟨v', rfl, by rw [HG.parts_all hcp l hl1]; exact sl_own o, b⟩
  have hal : (HG.allN r l 4).length ≤ 1000 := by rw [HG.parts_all hcp l hl1]; have := HG.items_len r l; omega
  have CRec : Hid (∀ U u v, SL U u (HG.allN r l 4) → SL U v (HG.allN r l 4) → Calls Tryd.prog 14 #[u, v] U fun e w' => e = .returned (.bool true) ∧ Bl U w') := fun U u v h1 h2 => by
    have := Records_x _ _ u v U h1 h2 hal
    rw [(eqRs_iff _ _).2 rfl] at this; exact this
  have HGN : Hid ((HG.rng r.d r.p l).n = ((HG.allN r l 4).length : Nat)) := by
    show _ = _
    rw [HG.parts_all hcp l hl1, hir]; rfl
  have HGC : Hid (∀ (U : World) b, U.heap[b]? = some (.cells GL.toArray 26 (0, 0)) → U.cell? ⟨b, 2, none⟩ = some (.int .i64 ((HG.allN r l 4).length : Nat))) := fun U b h => by
    rw [cell_of_row _ _ 2 _ _ _ h, hGL]
    show some (Value.int .i64 (HG.rng r.d r.p l).n) = _
    rw [HGN.out]
  have HPC : Hid (∀ i, i < 4 → (PL i)[2]? = some (.int .i64 ((HG.items (HG.part r l i) l).length : Nat)) ∧ (PL i)[0]? = some (.int .i64 (r.d + 1)) ∧ (PL i).length = 35) := fun i hi => by
    rw [hPL]
    refine ⟨?_, rfl, fG_len _⟩
    show some (Value.int .i64 (HG.part r l i).n) = _
    rw [HG.part_num hcp l hl1 i hi]
  have HIP : Hid (∀ i, (Tryd.prog.info? 26).map (·.size) = some (PL i).length) := fun i => by rw [hPL]; exact one_infoG _
  have HLG : Hid (GL.length = 35 ∧ ∀ u ∈ GL, u.oneCell' = true) := by rw [hGL]; exact ⟨fG_len _, fG_one _⟩
  have HAS := hidI (fun i => HG.allN_succ r l i)
  have HIS := hidI (fun i => HG.inN_succ r l k i)
  have HAL : Hid (∀ i, (HG.allN r l i).length ≤ i * 80) := fun i => Nat.le_trans (HG.allN_len r l i) (Nat.mul_le_mul_left _ hl)
  have HIL : Hid (∀ i, (HG.items (HG.part r l i) l).length ≤ 80) := fun i => Nat.le_trans (HG.items_len _ _) hl
  have HIF := hidI (HG.inN_four hcp l hl1 k)
  have HI0 : Hid (HG.inN r l k 0 = 0) := rfl
  have HA0 : Hid (HG.allN r l 0 = []) := rfl
  have HZ : Hid (∀ U : World, (U.alloc (.cells zRg.toArray 26)).heap[U.heap.size]? = some (.cells zRg.toArray 26 (0, 0))) := fun U => heap_alloc_new _ _
  have HA : Hid (∀ (U V : World) o, Of1 U.heap.size (U.alloc o) V → Bl U V) := fun U V o h => h.bl ((Bl.refl U).alloc _) (Nat.le_refl _)
  have HZS := hidI zRg_sz
  rw [← hn] at hl CPt CIt COf CIr ⊢
  have hlz : ¬ (n : Int) > 80 := by omega
  have hdl : decide ((n : Int) > 80) = false := decide_eq_false hlz
  rw [hg] at CGd
  have hd1 : IntKind.i64.wrap (r.d + 1) = r.d + 1 := by rw [IntKind.wrap_i64]; omega
  clear hG hv hB2 h0 h1 hW2 hn hg hPL hGL hplr hir hal HGN hl1 p0 p1
  generalize fG r = FG at *
  generalize dg k = DK at *
  generalize k.map vb = KL at *
  generalize r.d = d at *
  generalize r.p = p at *
  go_enter Tryd.func4, Tryd.ntmps4
  go_wp2_with (first
    | go_skip
    | (go_at_call 8; rw [← HW2.out]; refine (CA.out _ (Bl.refl _)).mono ?_; clear CA; rintro e w1 ⟨rfl, b1⟩; have HC1 := hidI b1; clear b1)
    | (refine wl_midG (by rfl) 26 _ rfl w.heap.size 0 rfl FG _ (HBX.out _ HC1.out).1 huG rfl HIG.out ?_)
    | (go_at_call 19; refine (CGd.out _).mono ?_; clear CGd; rintro e w2 ⟨rfl, g2⟩; have HC2 := hidI (HC1.out.step (gn_bl g2)); clear HC1 g2)
    | (refine wl_midG (by rfl) 26 _ rfl w.heap.size 0 rfl FG _ (HBX.out _ HC2.out).1 huG rfl HIG.out ?_)
    | (go_at_call 11; refine (CPt.out _ HC2.out).mono ?_; clear CPt; rintro e w3 ⟨a3, c3, rfl, r3, b3⟩; have HC3 := hidI (HC2.out.step b3); have HR3 := hidI r3; obtain ⟨_, _, y0, _⟩ := HBX.out _ HC3.out; clear b3 r3 HC2))
  have HO9 : Hid ((w3.alloc (.cells #[] 48)).ownsRow w3.heap.size 48 65 (.slice (some ⟨w3.heap.size, 0, none⟩) 0 0) ([] : List HG.R).length (flG lyR [])) := own_empty9 w3 _ 65
  clear y0
  go_loopw [9, 10, 11, 12, 13] (fun u9 u10 u11 u12 _ wr => ∃ i : Nat, i ≤ 4 ∧ u12 = .int .i64 i ∧ u10 = .int .i64 ((HG.allN r l i).length : Nat) ∧ u11 = .int .i64 (HG.inN r l k i : Nat) ∧ wr.ownsRow w3.heap.size 48 65 u9 (HG.allN r l i).length (flG lyR (HG.allN r l i)) ∧ Bl w3 wr) (fun _ _ _ u12 _ _ => 4 - (intOf u12).toNat)
  case atStart => exact ⟨0, by omega, rfl, by rw [HA0.out]; rfl, by rw [HI0.out]; rfl, by rw [HA0.out]; exact HO9.out, (Bl.refl w3).alloc _⟩
  case round =>
    as_aux_lemma =>
    obtain ⟨i, hi4, rfl, rfl, rfl, ho, hb⟩ := hrel
    have HO := hidI ho
    have HB := hidI hb
    clear ho hb HO9
    by_cases hlt : i < 4
    · have hltz : (i : Int) < 4 := by omega
      obtain ⟨b4, o4, rfl, hb4, rg4⟩ := HR3.out i hlt
      obtain ⟨pc2, pc0, pcl⟩ := HPC.out i hlt
      have hS := HAS.out i
      have hT := HIS.out i
      have hA1 := HAL.out i
      have hA2 := HIL.out i
      have hA3 := HAL.out (i + 1)
      obtain ⟨X, hX⟩ : ∃ X, X = HG.items (HG.part r l i) l := ⟨_, rfl⟩
      have C4 := hidI (CIt.out i)
      have C5 := hidI (CGp.out i hlt)
      have C6 := hidI (CIn.out i)
      rw [← hX] at C4 pc2 hS hA2
      obtain ⟨q, hq⟩ : ∃ q, q = HG.inn (HG.part r l i) k := ⟨_, rfl⟩
      rw [← hq] at C6 hT
      obtain ⟨PLi, hPLi⟩ : ∃ L, L = PL i := ⟨_, rfl⟩
      rw [← hPLi] at rg4 pc2 pc0 pcl C4 C5 C6
      have HIi : Hid ((Tryd.prog.info? 26).map (·.size) = some PLi.length) := by rw [hPLi]; exact HIP.out i
      have HQ : Hid (∀ U, Bl w3 U → U.rangeAt b4 (o4 + i * 35) PLi ∧ U.cell? ⟨b4, o4 + i * 35 + 2, none⟩ = some (.int .i64 (X.length : Nat)) ∧ U.cell? ⟨b4, o4 + i * 35, none⟩ = some (.int .i64 (d + 1)) ∧ U.cell? ⟨w.heap.size, 0, none⟩ = some (.int .i64 d) ∧ U.rangeAt (w.heap.size + 1) 0 KL) := fun U h => by
        have k1 := Bl.range h hb4 rg4
        exact ⟨k1, k1 2 _ pc2, by have := k1 0 _ pc0; simpa using this, (HBX.out U (HC3.out.step h)).2.2.1, (HBX.out U (HC3.out.step h)).2.1⟩
      have hAX : X.length ≤ 80 := hA2
      have HS := hidI hS
      have HT := hidI hT
      have HAB := hidI (And.intro hA1 hA3)
      clear rg4 pc2 pc0 pcl hS hT hA1 hA2 hA3 hX hq hPLi CIt CGp CIn HPC HIP HAS HIS HAL HIL HR3
      go_upto_region 17 with (first
        | go_skip
        | (refine wl_midG (by rfl) 26 _ rfl b4 (o4 + i * 35) rfl PLi _ (HQ.out _ HB.out).1 huG rfl HIi.out ?_)
        | (go_at_call 15; refine (C4.out _ (HC3.out.step HB.out)).mono ?_; clear C4; rintro e w5 ⟨a5, c5, rfl, r5, b5⟩; have HB5 := hidI (HB.out.step b5); have HO5 := hidI (ownsRow_bl HO.out b5); have HR5 := hidI r5; clear b5 r5 HB HO))
      have HQ5 : Hid (∀ U, Bl w5 U → U.rangeAt b4 (o4 + i * 35) PLi ∧ U.cell? ⟨b4, o4 + i * 35 + 2, none⟩ = some (.int .i64 (X.length : Nat)) ∧ U.cell? ⟨b4, o4 + i * 35, none⟩ = some (.int .i64 (d + 1)) ∧ U.cell? ⟨w.heap.size, 0, none⟩ = some (.int .i64 d) ∧ U.rangeAt (w.heap.size + 1) 0 KL) := fun U h => HQ.out U (HB5.out.step h)
      go_cut [86] (fun s86 wx => s86 = .bool false ∧ Bl w5 wx)
      case first =>
        refine wp_region_noPanic ?_
        refine wp_region_held_drew (S := fun U => Bl w5 U) (by kernel_rfl) (((Bl.refl w5).drew)) (fun hHeld => ?_)
        refine wpAnyH_take (i := 0) rfl (by kernel_rfl) (by kernel_rfl) (by kernel_rfl) (fun _ _ _ h => h) (yi_move (by kernel_rfl) rfl rfl) (by assumption) ?_
        simp only [Act.put, List.getElem_toArray, List.getElem_cons_succ, List.getElem_cons_zero, List.setIfInBounds_toArray, List.set_cons_zero, List.set_cons_succ, Act.eval, Array.getD_eq_getD_getElem?, List.getElem?_toArray, List.getElem?_cons_succ, List.getElem?_cons_zero, Option.getD_some]
        refine wpAnyH_take (i := 1) (v := ?_) rfl (by kernel_rfl) (by kernel_rfl) (by kernel_rfl) (fun _ _ _ h => h) (Or.inl ⟨by kernel_rfl, ?_⟩) (by assumption) ?_
        rotate_left
        · (intro w hSw; (try dsimp only at hSw); go_simp; (try with_reducible rfl))
        simp only [Act.put, List.getElem_toArray, List.getElem_cons_succ, List.getElem_cons_zero, List.setIfInBounds_toArray, List.set_cons_zero, List.set_cons_succ, Act.eval, Array.getD_eq_getD_getElem?, List.getElem?_toArray, List.getElem?_cons_succ, List.getElem?_cons_zero, Option.getD_some]
        refine wpAnyH_take (i := 2) rfl (by kernel_rfl) (by kernel_rfl) (by kernel_rfl) (fun _ _ _ h => h) (yi_move (by kernel_rfl) rfl rfl) (by assumption) ?_
        simp only [Act.put, List.getElem_toArray, List.getElem_cons_succ, List.getElem_cons_zero, List.setIfInBounds_toArray, List.set_cons_zero, List.set_cons_succ, Act.eval, Array.getD_eq_getD_getElem?, List.getElem?_toArray, List.getElem?_cons_succ, List.getElem?_cons_zero, Option.getD_some]
        refine wpAnyH_take (i := 3) rfl (by kernel_rfl) (by kernel_rfl) (by kernel_rfl) (fun _ _ _ h => h) (yi_move (by kernel_rfl) rfl rfl) (by assumption) ?_
        simp only [Act.put, List.getElem_toArray, List.getElem_cons_succ, List.getElem_cons_zero, List.setIfInBounds_toArray, List.set_cons_zero, List.set_cons_succ, Act.eval, Array.getD_eq_getD_getElem?, List.getElem?_toArray, List.getElem?_cons_succ, List.getElem?_cons_zero, Option.getD_some]
        refine wpAnyH_take (i := 4) (v := ?_) rfl (by kernel_rfl) (by kernel_rfl) (by kernel_rfl) (fun _ _ _ h => h) (Or.inl ⟨by kernel_rfl, ?_⟩) (by assumption) ?_
        rotate_left
        · (intro w hSw; (try dsimp only at hSw); go_simp; (try with_reducible rfl))
        simp only [Act.put, List.getElem_toArray, List.getElem_cons_succ, List.getElem_cons_zero, List.setIfInBounds_toArray, List.set_cons_zero, List.set_cons_succ, Act.eval, Array.getD_eq_getD_getElem?, List.getElem?_toArray, List.getElem?_cons_succ, List.getElem?_cons_zero, Option.getD_some]
        refine wpAnyH_take (i := 5) (v := ?_) rfl (by kernel_rfl) (by kernel_rfl) (by kernel_rfl) (fun _ _ _ h => h) (Or.inl ⟨by kernel_rfl, ?_⟩) (by assumption) ?_
        rotate_left
        · (intro w hSw; (try dsimp only at hSw); go_simp; (try with_reducible rfl))
        simp only [Act.put, List.getElem_toArray, List.getElem_cons_succ, List.getElem_cons_zero, List.setIfInBounds_toArray, List.set_cons_zero, List.set_cons_succ, Act.eval, Array.getD_eq_getD_getElem?, List.getElem?_toArray, List.getElem?_cons_succ, List.getElem?_cons_zero, Option.getD_some]
        refine wpAnyH_take (i := 6) (v := ?_) rfl (by kernel_rfl) (by kernel_rfl) (by kernel_rfl) (fun _ _ _ h => h) (Or.inl ⟨by kernel_rfl, ?_⟩) (by assumption) ?_
        rotate_left
        · (intro w hSw; obtain ⟨_, hX, _⟩ := HQ5.out _ hSw; go_simp; (try with_reducible rfl))
        simp only [Act.put, List.getElem_toArray, List.getElem_cons_succ, List.getElem_cons_zero, List.setIfInBounds_toArray, List.set_cons_zero, List.set_cons_succ, Act.eval, Array.getD_eq_getD_getElem?, List.getElem?_toArray, List.getElem?_cons_succ, List.getElem?_cons_zero, Option.getD_some]
        refine wpAnyH_take (i := 7) (v := ?_) rfl (by kernel_rfl) (by kernel_rfl) (by kernel_rfl) (fun _ _ _ h => h) (Or.inl ⟨by kernel_rfl, ?_⟩) (by assumption) ?_
        rotate_left
        · (intro w hSw; (try dsimp only at hSw); go_simp; (try with_reducible rfl))
        simp only [Act.put, List.getElem_toArray, List.getElem_cons_succ, List.getElem_cons_zero, List.setIfInBounds_toArray, List.set_cons_zero, List.set_cons_succ, Act.eval, Array.getD_eq_getD_getElem?, List.getElem?_toArray, List.getElem?_cons_succ, List.getElem?_cons_zero, Option.getD_some]
        refine wpAnyH_take (i := 8) rfl (by kernel_rfl) (by kernel_rfl) (by kernel_rfl) (fun _ _ _ h => h) (yi_move (by kernel_rfl) rfl rfl) (by assumption) ?_
        simp only [Act.put, List.getElem_toArray, List.getElem_cons_succ, List.getElem_cons_zero, List.setIfInBounds_toArray, List.set_cons_zero, List.set_cons_succ, Act.eval, Array.getD_eq_getD_getElem?, List.getElem?_toArray, List.getElem?_cons_succ, List.getElem?_cons_zero, Option.getD_some]
        refine wpAnyH_take (i := 9) rfl (by kernel_rfl) (by kernel_rfl) (by kernel_rfl) (fun _ _ _ h => h) (yi_move (by kernel_rfl) rfl rfl) (by assumption) ?_
        simp only [Act.put, List.getElem_toArray, List.getElem_cons_succ, List.getElem_cons_zero, List.setIfInBounds_toArray, List.set_cons_zero, List.set_cons_succ, Act.eval, Array.getD_eq_getD_getElem?, List.getElem?_toArray, List.getElem?_cons_succ, List.getElem?_cons_zero, Option.getD_some]
        refine wpAnyH_take (i := 10) rfl (by kernel_rfl) (by kernel_rfl) (by kernel_rfl) (fun _ _ _ h => h) (yi_move (by kernel_rfl) rfl rfl) (by assumption) ?_
        simp only [Act.put, List.getElem_toArray, List.getElem_cons_succ, List.getElem_cons_zero, List.setIfInBounds_toArray, List.set_cons_zero, List.set_cons_succ, Act.eval, Array.getD_eq_getD_getElem?, List.getElem?_toArray, List.getElem?_cons_succ, List.getElem?_cons_zero, Option.getD_some]
        refine wpAnyH_take (i := 11) (v := ?_) rfl (by kernel_rfl) (by kernel_rfl) (by kernel_rfl) (fun _ _ _ h => h) (Or.inl ⟨by kernel_rfl, ?_⟩) (by assumption) ?_
        rotate_left
        · (intro w hSw; (try dsimp only at hSw); go_simp; (try with_reducible rfl))
        simp only [Act.put, List.getElem_toArray, List.getElem_cons_succ, List.getElem_cons_zero, List.setIfInBounds_toArray, List.set_cons_zero, List.set_cons_succ, Act.eval, Array.getD_eq_getD_getElem?, List.getElem?_toArray, List.getElem?_cons_succ, List.getElem?_cons_zero, Option.getD_some]
        refine wpAnyH_take (i := 12) (v := ?_) rfl (by kernel_rfl) (by kernel_rfl) (by kernel_rfl) (fun _ _ _ h => h) (Or.inl ⟨by kernel_rfl, ?_⟩) (by assumption) ?_
        rotate_left
        · (intro w hSw; (try dsimp only at hSw); go_simp; (try with_reducible rfl))
        simp only [Act.put, List.getElem_toArray, List.getElem_cons_succ, List.getElem_cons_zero, List.setIfInBounds_toArray, List.set_cons_zero, List.set_cons_succ, Act.eval, Array.getD_eq_getD_getElem?, List.getElem?_toArray, List.getElem?_cons_succ, List.getElem?_cons_zero, Option.getD_some]
        refine wpAnyH_take (i := 13) (v := ?_) rfl (by kernel_rfl) (by kernel_rfl) (by kernel_rfl) (fun _ _ _ h => h) (Or.inl ⟨by kernel_rfl, ?_⟩) (by assumption) ?_
        rotate_left
        · (intro w hSw; obtain ⟨_, _, hX, _⟩ := HQ5.out _ hSw; go_simp; (try with_reducible rfl))
        simp only [Act.put, List.getElem_toArray, List.getElem_cons_succ, List.getElem_cons_zero, List.setIfInBounds_toArray, List.set_cons_zero, List.set_cons_succ, Act.eval, Array.getD_eq_getD_getElem?, List.getElem?_toArray, List.getElem?_cons_succ, List.getElem?_cons_zero, Option.getD_some]
        refine wpAnyH_take (i := 14) (v := ?_) rfl (by kernel_rfl) (by kernel_rfl) (by kernel_rfl) (fun _ _ _ h => h) (Or.inl ⟨by kernel_rfl, ?_⟩) (by assumption) ?_
        rotate_left
        · (intro w hSw; (try dsimp only at hSw); go_simp; (try with_reducible rfl))
        simp only [Act.put, List.getElem_toArray, List.getElem_cons_succ, List.getElem_cons_zero, List.setIfInBounds_toArray, List.set_cons_zero, List.set_cons_succ, Act.eval, Array.getD_eq_getD_getElem?, List.getElem?_toArray, List.getElem?_cons_succ, List.getElem?_cons_zero, Option.getD_some]
        refine wpAnyH_take (i := 15) (v := ?_) rfl (by kernel_rfl) (by kernel_rfl) (by kernel_rfl) (fun _ _ _ h => h) (Or.inl ⟨by kernel_rfl, ?_⟩) (by assumption) ?_
        rotate_left
        · (intro w hSw; obtain ⟨_, _, _, hX, _⟩ := HQ5.out _ hSw; go_simp; (try with_reducible rfl))
        simp only [Act.put, List.getElem_toArray, List.getElem_cons_succ, List.getElem_cons_zero, List.setIfInBounds_toArray, List.set_cons_zero, List.set_cons_succ, Act.eval, Array.getD_eq_getD_getElem?, List.getElem?_toArray, List.getElem?_cons_succ, List.getElem?_cons_zero, Option.getD_some]
        refine wpAnyH_take (i := 16) (v := ?_) rfl (by kernel_rfl) (by kernel_rfl) (by kernel_rfl) (fun _ _ _ h => h) (Or.inl ⟨by kernel_rfl, ?_⟩) (by assumption) ?_
        rotate_left
        · (intro w hSw; (try dsimp only at hSw); go_simp; (try with_reducible rfl))
        simp only [Act.put, List.getElem_toArray, List.getElem_cons_succ, List.getElem_cons_zero, List.setIfInBounds_toArray, List.set_cons_zero, List.set_cons_succ, Act.eval, Array.getD_eq_getD_getElem?, List.getElem?_toArray, List.getElem?_cons_succ, List.getElem?_cons_zero, Option.getD_some]
        refine wpAnyH_take (i := 17) (v := ?_) rfl (by kernel_rfl) (by kernel_rfl) (by kernel_rfl) (fun _ _ _ h => h) (Or.inl ⟨by kernel_rfl, ?_⟩) (by assumption) ?_
        rotate_left
        · (intro w hSw; (try dsimp only at hSw); go_simp; (try with_reducible rfl))
        simp only [Act.put, List.getElem_toArray, List.getElem_cons_succ, List.getElem_cons_zero, List.setIfInBounds_toArray, List.set_cons_zero, List.set_cons_succ, Act.eval, Array.getD_eq_getD_getElem?, List.getElem?_toArray, List.getElem?_cons_succ, List.getElem?_cons_zero, Option.getD_some]
        refine wpAnyH_take (i := 18) (v := ?_) rfl (by kernel_rfl) (by kernel_rfl) (by kernel_rfl) (fun _ _ _ h => h) (Or.inl ⟨by kernel_rfl, ?_⟩) (by assumption) ?_
        rotate_left
        · (intro w hSw; (try dsimp only at hSw); go_simp; (try with_reducible rfl))
        simp only [Act.put, List.getElem_toArray, List.getElem_cons_succ, List.getElem_cons_zero, List.setIfInBounds_toArray, List.set_cons_zero, List.set_cons_succ, Act.eval, Array.getD_eq_getD_getElem?, List.getElem?_toArray, List.getElem?_cons_succ, List.getElem?_cons_zero, Option.getD_some]
        refine wpAnyH_take (i := 19) rfl (by kernel_rfl) (by kernel_rfl) (by kernel_rfl) (fun _ _ _ h => h) (yi_move (by kernel_rfl) rfl rfl) (by assumption) ?_
        simp only [Act.put, List.getElem_toArray, List.getElem_cons_succ, List.getElem_cons_zero, List.setIfInBounds_toArray, List.set_cons_zero, List.set_cons_succ, Act.eval, Array.getD_eq_getD_getElem?, List.getElem?_toArray, List.getElem?_cons_succ, List.getElem?_cons_zero, Option.getD_some]
        refine wpAnyH_take (i := 20) rfl (by kernel_rfl) (by kernel_rfl) (by kernel_rfl) (fun _ _ _ h => h) (yi_move (by kernel_rfl) rfl rfl) (by assumption) ?_
        simp only [Act.put, List.getElem_toArray, List.getElem_cons_succ, List.getElem_cons_zero, List.setIfInBounds_toArray, List.set_cons_zero, List.set_cons_succ, Act.eval, Array.getD_eq_getD_getElem?, List.getElem?_toArray, List.getElem?_cons_succ, List.getElem?_cons_zero, Option.getD_some]
        refine wpAnyH_take (i := 21) rfl (by kernel_rfl) (by kernel_rfl) (by kernel_rfl) (fun _ _ _ h => h) (yi_move (by kernel_rfl) rfl rfl) (by assumption) ?_
        simp only [Act.put, List.getElem_toArray, List.getElem_cons_succ, List.getElem_cons_zero, List.setIfInBounds_toArray, List.set_cons_zero, List.set_cons_succ, Act.eval, Array.getD_eq_getD_getElem?, List.getElem?_toArray, List.getElem?_cons_succ, List.getElem?_cons_zero, Option.getD_some]
        refine wpAnyH_take (i := 22) (v := ?_) rfl (by kernel_rfl) (by kernel_rfl) (by kernel_rfl) (fun _ _ _ h => h) (Or.inl ⟨by kernel_rfl, ?_⟩) (by assumption) ?_
        rotate_left
        · (intro w hSw; (try dsimp only at hSw); go_simp; (try with_reducible rfl))
        simp only [Act.put, List.getElem_toArray, List.getElem_cons_succ, List.getElem_cons_zero, List.setIfInBounds_toArray, List.set_cons_zero, List.set_cons_succ, Act.eval, Array.getD_eq_getD_getElem?, List.getElem?_toArray, List.getElem?_cons_succ, List.getElem?_cons_zero, Option.getD_some]
        refine wpAnyH_take (i := 23) (v := .agg (List.toArray PLi)) rfl (by kernel_rfl) (by kernel_rfl) (by kernel_rfl) (fun _ _ _ h => h) (yieldsIf_load_mid (by kernel_rfl) _ (.tmp 82) (by kernel_rfl) b4 (o4 + i * 35) (by kernel_rfl) PLi _ (fun W hW => (HQ5.out _ hW).1) huG rfl HIi.out) (by assumption) ?_
        simp only [Act.put, List.getElem_toArray, List.getElem_cons_succ, List.getElem_cons_zero, List.setIfInBounds_toArray, List.set_cons_zero, List.set_cons_succ, Act.eval, Array.getD_eq_getD_getElem?, List.getElem?_toArray, List.getElem?_cons_succ, List.getElem?_cons_zero, Option.getD_some]
        refine wpAnyH_ready (rs := [24]) (by kernel_rfl) (by simp) ?_
        refine AllReadyH.cons (o := _) rfl (fun K hK => ?_) AllReadyH.nil
        go_simp
        go_at_call 19; refine (C5.out _).mono ?_; rintro e V25 ⟨rfl, hV25⟩; have HB25 := ((Bl.refl w5).drew).step (gn_bl hV25); clear hV25
        (try clear hHeld)
        refine hK.out _ _ ((HB25)) (fun hHeld => ?_)
        clear hK K
        (try simp only [Act.put, List.getElem_toArray, List.getElem_cons_succ, List.getElem_cons_zero, List.setIfInBounds_toArray, List.set_cons_zero, List.set_cons_succ, Act.eval, Array.getD_eq_getD_getElem?, List.getElem?_toArray, List.getElem?_cons_succ, List.getElem?_cons_zero, Option.getD_some])
        refine wpAnyH_take (i := 25) (v := ?_) rfl (by kernel_rfl) (by kernel_rfl) (by kernel_rfl) (fun _ _ _ h => h) (Or.inl ⟨by kernel_rfl, ?_⟩) (by assumption) ?_
        rotate_left
        · (intro w hSw; (try dsimp only at hSw); go_simp; (try with_reducible rfl))
        simp only [Act.put, List.getElem_toArray, List.getElem_cons_succ, List.getElem_cons_zero, List.setIfInBounds_toArray, List.set_cons_zero, List.set_cons_succ, Act.eval, Array.getD_eq_getD_getElem?, List.getElem?_toArray, List.getElem?_cons_succ, List.getElem?_cons_zero, Option.getD_some]
        refine wpAnyH_take (i := 26) (v := ?_) rfl (by kernel_rfl) (by kernel_rfl) (by kernel_rfl) (fun _ _ _ h => h) (Or.inl ⟨by kernel_rfl, ?_⟩) (by assumption) ?_
        rotate_left
        · (intro w hSw; (try dsimp only at hSw); go_simp; (try with_reducible rfl))
        simp only [Act.put, List.getElem_toArray, List.getElem_cons_succ, List.getElem_cons_zero, List.setIfInBounds_toArray, List.set_cons_zero, List.set_cons_succ, Act.eval, Array.getD_eq_getD_getElem?, List.getElem?_toArray, List.getElem?_cons_succ, List.getElem?_cons_zero, Option.getD_some]
        refine wpAnyH_done (by kernel_rfl) ?_ _
        refine NoPanic.normal ?_
        go_wp2_with fail
        go_meet
        exact ⟨rfl, HB25⟩
      case rest =>
      as_aux_lemma =>
      obtain ⟨rfl, hb6⟩ := hcut
      have HB6 := hidI (HB5.out.step hb6)
      have HO6 := hidI (ownsRow_bl HO5.out hb6)
      have HR6 := hidI (HR5.out.bl hb6)
      have hz1 : ((HG.allN r l i).length : Int) ≤ 320 := by have := HAB.out.1; omega
      have hz2 : (X.length : Int) ≤ 80 := by omega
      have hz3 : (HG.allN r l i).length ≤ 320 := by omega
      clear hb6 HB5 HO5 HR5 HQ5
      go_upto_region 21 with (first
        | go_skip
        | (refine wl_appG lyR 48 22 _ 72 undRs infoRc3 zRec_size (by decide) rfl _ _ rfl w3.heap.size (HG.allN r l i) u9 rfl (Below.size HB6.out) HO6.out a5 X X.length c5 rfl rfl HR6.out (by omega) ?_; intro v7 w7 g1 g2; have HB7 := hidI (Below.grown HB6.out g2 (Below.size HB6.out) (fun q hq => (owns_ge HO6.out hq).1)); have HO7 := hidI g1; clear g1 g2 HO6 HR6 HB6; obtain ⟨_, y2, _⟩ := HQ.out _ HB7.out))
      have HQ7 : Hid (∀ U, Bl w7 U → U.rangeAt b4 (o4 + i * 35) PLi ∧ U.rangeAt (w.heap.size + 1) 0 KL) := fun U h => ⟨(HQ.out U (bl_tr HB7.out h)).1, (HQ.out U (bl_tr HB7.out h)).2.2.2.2⟩
      clear y2
      go_cut [102] (fun s102 wx => s102 = .bool q ∧ Bl w7 wx)
      case first =>
        refine wp_region_noPanic ?_
        refine wp_region_held_drew (S := fun U => Bl w7 U) (by kernel_rfl) (((Bl.refl w7).drew)) (fun hHeld => ?_)
        refine wpAnyH_take (i := 0) rfl (by kernel_rfl) (by kernel_rfl) (by kernel_rfl) (fun _ _ _ h => h) (yi_move (by kernel_rfl) rfl rfl) (by assumption) ?_
        simp only [Act.put, List.getElem_toArray, List.getElem_cons_succ, List.getElem_cons_zero, List.setIfInBounds_toArray, List.set_cons_zero, List.set_cons_succ, Act.eval, Array.getD_eq_getD_getElem?, List.getElem?_toArray, List.getElem?_cons_succ, List.getElem?_cons_zero, Option.getD_some]
        refine wpAnyH_take (i := 1) rfl (by kernel_rfl) (by kernel_rfl) (by kernel_rfl) (fun _ _ _ h => h) (yi_move (by kernel_rfl) rfl rfl) (by assumption) ?_
        simp only [Act.put, List.getElem_toArray, List.getElem_cons_succ, List.getElem_cons_zero, List.setIfInBounds_toArray, List.set_cons_zero, List.set_cons_succ, Act.eval, Array.getD_eq_getD_getElem?, List.getElem?_toArray, List.getElem?_cons_succ, List.getElem?_cons_zero, Option.getD_some]
        refine wpAnyH_take (i := 2) (v := ?_) rfl (by kernel_rfl) (by kernel_rfl) (by kernel_rfl) (fun _ _ _ h => h) (Or.inl ⟨by kernel_rfl, ?_⟩) (by assumption) ?_
        rotate_left
        · (intro w hSw; (try dsimp only at hSw); go_simp; (try with_reducible rfl))
        simp only [Act.put, List.getElem_toArray, List.getElem_cons_succ, List.getElem_cons_zero, List.setIfInBounds_toArray, List.set_cons_zero, List.set_cons_succ, Act.eval, Array.getD_eq_getD_getElem?, List.getElem?_toArray, List.getElem?_cons_succ, List.getElem?_cons_zero, Option.getD_some]
        refine wpAnyH_take (i := 3) (v := .agg (List.toArray PLi)) rfl (by kernel_rfl) (by kernel_rfl) (by kernel_rfl) (fun _ _ _ h => h) (yieldsIf_load_mid (by kernel_rfl) _ (.tmp 99) (by kernel_rfl) b4 (o4 + i * 35) (by kernel_rfl) PLi _ (fun W hW => (HQ7.out _ hW).1) huG rfl HIi.out) (by assumption) ?_
        simp only [Act.put, List.getElem_toArray, List.getElem_cons_succ, List.getElem_cons_zero, List.setIfInBounds_toArray, List.set_cons_zero, List.set_cons_succ, Act.eval, Array.getD_eq_getD_getElem?, List.getElem?_toArray, List.getElem?_cons_succ, List.getElem?_cons_zero, Option.getD_some]
        refine wpAnyH_take (i := 4) (v := .agg (List.toArray KL)) rfl (by kernel_rfl) (by kernel_rfl) (by kernel_rfl) (fun _ _ _ h => h) (yieldsIf_load_mid (by kernel_rfl) _ (.tmp 5) (by kernel_rfl) (w.heap.size + 1) 0 (by kernel_rfl) KL _ (fun W hW => (HQ7.out _ hW).2) und27 rfl HIK.out) (by assumption) ?_
        simp only [Act.put, List.getElem_toArray, List.getElem_cons_succ, List.getElem_cons_zero, List.setIfInBounds_toArray, List.set_cons_zero, List.set_cons_succ, Act.eval, Array.getD_eq_getD_getElem?, List.getElem?_toArray, List.getElem?_cons_succ, List.getElem?_cons_zero, Option.getD_some]
        refine wpAnyH_ready (rs := [5]) (by kernel_rfl) (by simp) ?_
        refine AllReadyH.cons (o := _) rfl (fun K hK => ?_) AllReadyH.nil
        go_simp
        go_at_call 21; refine (C6.out _).mono ?_; rintro e V6 ⟨rfl, hV6⟩; have HB6 := ((Bl.refl w7).drew).step (gn_bl hV6); clear hV6
        (try clear hHeld)
        refine hK.out _ _ ((HB6)) (fun hHeld => ?_)
        clear hK K
        (try simp only [Act.put, List.getElem_toArray, List.getElem_cons_succ, List.getElem_cons_zero, List.setIfInBounds_toArray, List.set_cons_zero, List.set_cons_succ, Act.eval, Array.getD_eq_getD_getElem?, List.getElem?_toArray, List.getElem?_cons_succ, List.getElem?_cons_zero, Option.getD_some])
        refine wpAnyH_done (by kernel_rfl) ?_ _
        refine NoPanic.normal ?_
        go_wp2_with fail
        go_meet
        exact ⟨rfl, HB6⟩
      case rest =>
      as_aux_lemma =>
      obtain ⟨rfl, hb8⟩ := hcut
      have HB8 := hidI (bl_tr HB7.out hb8)
      have HO8 := hidI (ownsRow_bl HO7.out hb8)
      have hin : (HG.inN r l k i : Int) ≤ 4 := by
        have : HG.inN r l k i ≤ i := by
          unfold HG.inN
          exact Nat.le_trans (List.length_filter_le _ _) (by simp)
        omega
      clear hb8 HB7 HO7 HQ7
      cases q with
      | true =>
        have e1 : HG.inN r l k (i + 1) = HG.inN r l k i + 1 := HT.out
        have E1 := hidI e1
        clear e1
        go_wp2_with fail
        go_roundw
        case rel => exact ⟨i + 1, by omega, by go_num, by rw [HS.out, List.length_append]; first | rfl | go_num, by rw [E1.out]; first | rfl | go_num, by rw [HS.out]; exact HO8.out, HB8.out⟩
        case measure => simp [intOf]; omega
      | false =>
        have e1 : HG.inN r l k (i + 1) = HG.inN r l k i := HT.out
        have E1 := hidI e1
        clear e1
        go_wp2_with fail
        go_roundw
        case rel => exact ⟨i + 1, by omega, by go_num, by rw [HS.out, List.length_append]; first | rfl | go_num, by rw [E1.out], by rw [HS.out]; exact HO8.out, HB8.out⟩
        case measure => simp [intOf]; omega
    · obtain rfl : i = 4 := by omega
      obtain ⟨_, _, y0, y1⟩ := HBX.out _ (bl_tr HC3.out HB.out)
      have HSL9 := hidI (sl_own HO.out)
      clear CIt CGp CIn HPC HIP HAS HIS HAL HIL HR3 HI0 HA0
      go_upto_region 24 with (first
        | go_skip
        | (go_at_call 9; refine (COf.out _ (bl_tr HC3.out HB.out)).mono ?_; clear COf y0 y1; rintro e w8 ⟨rfl, b8⟩; have HB8 := hidI (bl_tr HB.out b8); have HSL8 := hidI (HSL9.out.bl b8); clear b8 HSL9)
        | (refine wl_rowU rfl 26 _ _ rfl w8.heap.size GL rfl rfl 26 zRg.toArray (HZ.out _) 35 infoRg HLG.out.1 HZS.out HLG.out.2 ?_; intro U9 hU1 hU2; have hb := HA.out _ _ _ hU2; have HB9 := hidI (bl_tr HB8.out hb); have HU9 := hidI hU1; have HSL := hidI (HSL8.out.bl hb); clear hU1 hU2 hb HB8 HSL8))
      obtain ⟨b8, hb8⟩ : ∃ b8, b8 = w8.heap.size := ⟨_, rfl⟩
      rw [← hb8] at HU9 ⊢
      have HQ : Hid (∀ U, Bl U9 U → U.rangeAt w.heap.size 0 FG ∧ U.rangeAt (w.heap.size + 1) 0 KL ∧ U.cell? ⟨b8, 2, none⟩ = some (.int .i64 ((HG.allN r l 4).length : Nat))) := fun U h => by
        have k1 := HBX.out U (bl_tr HC3.out (bl_tr HB9.out h))
        exact ⟨k1.1, k1.2.1, HGC.out U b8 (Bl.heap h HU9.out)⟩
      have HXX : Hid (∀ U, Bl U9 U → Bl W2 U) := fun U h => bl_tr HC3.out (bl_tr HB9.out h)
      have HFIN : Hid (∀ U, Bl U9 U → Bl w U) := fun U h => bl_tr HB2.out (HXX.out U h)
      have hif := HIF.out
      clear hb8 HU9 HBX HGC HZ HA HIF
      cases hq : HG.inn r k with
      | true =>
        rw [hq] at hif CInr
        simp only [if_true] at hif
        rw [hif]
        clear hif hq
        have HCW := hidI (Bl.refl U9)
        obtain ⟨_, _, hX⟩ := HQ.out _ HCW.out
        go_wp2_with (first
          | go_skip
          | (refine wl_midG (by rfl) 26 _ rfl w.heap.size 0 rfl FG _ (HQ.out _ HCW.out).1 huG rfl HIG.out ?_)
          | (refine wl_midG (by rfl) 24 _ rfl (w.heap.size + 1) 0 rfl KL _ (HQ.out _ HCW.out).2.1 und27 rfl HIK.out ?_)
          | (go_at_call 15; refine (CIr.out _ (HXX.out _ HCW.out)).mono ?_; clear CIr; rintro e va ⟨v10, rfl, s10, b10⟩; have HCW := hidI (HCW.out.step b10); have HS10 := hidI s10; clear b10 s10 hX)
          | (go_at_call 14; refine (CRec.out _ _ _ (HSL.out.bl HCW.out) HS10.out).mono ?_; clear CRec HS10; rintro e vb ⟨rfl, b11⟩; have HCW := hidI (HCW.out.step b11); clear b11)
          | (go_at_call 21; refine (CInr.out _).mono ?_; clear CInr; rintro e vc ⟨rfl, g12⟩; have HCW := hidI (HCW.out.step (gn_bl g12)); clear g12))
        go_ret
        exact ⟨rfl, HFIN.out _ HCW.out⟩
      | false =>
        rw [hq] at hif CInr
        simp only [Bool.false_eq_true, if_false] at hif
        rw [hif]
        clear hif hq
        have HCW := hidI (Bl.refl U9)
        obtain ⟨_, _, hX⟩ := HQ.out _ HCW.out
        go_wp2_with (first
          | go_skip
          | (refine wl_midG (by rfl) 26 _ rfl w.heap.size 0 rfl FG _ (HQ.out _ HCW.out).1 huG rfl HIG.out ?_)
          | (refine wl_midG (by rfl) 24 _ rfl (w.heap.size + 1) 0 rfl KL _ (HQ.out _ HCW.out).2.1 und27 rfl HIK.out ?_)
          | (go_at_call 15; refine (CIr.out _ (HXX.out _ HCW.out)).mono ?_; clear CIr; rintro e va ⟨v10, rfl, s10, b10⟩; have HCW := hidI (HCW.out.step b10); have HS10 := hidI s10; clear b10 s10 hX)
          | (go_at_call 14; refine (CRec.out _ _ _ (HSL.out.bl HCW.out) HS10.out).mono ?_; clear CRec HS10; rintro e vb ⟨rfl, b11⟩; have HCW := hidI (HCW.out.step b11); clear b11)
          | (go_at_call 21; refine (CInr.out _).mono ?_; clear CInr; rintro e vc ⟨rfl, g12⟩; have HCW := hidI (HCW.out.step (gn_bl g12)); clear g12))
        go_ret
        exact ⟨rfl, HFIN.out _ HCW.out⟩

theorem parts_walk (l : List HG.R) (v : Value) (r : HG.G) (k : List UInt8) (hk : k.length = 32) (w : World) (hG : GW w) (hv : SL w v l) :
    Calls Tryd.prog 4 #[v, .agg (fG r).toArray, .agg (dg k)] w fun e w' => e = .returned (.bool true) ∧ Bl w w' := by
  by_cases h1 : 80 < l.length
  · exact pa_long l v r k hk w hG hv h1
  · cases h2 : HG.good r with
    | false => exact pa_bad l v r k hk w hG hv (by omega) h2
    | true =>
      cases h3 : (r.d == 8) with
      | true => exact pa_deep l v r k hk w hG hv (by omega) h2 h3
      | false => exact pa_main l v r k hk w hG hv (by omega) (by unfold HG.canP; rw [h2, h3]; rfl)
end Go.Proofs.YtfbjakhanjbaeaaDoor
