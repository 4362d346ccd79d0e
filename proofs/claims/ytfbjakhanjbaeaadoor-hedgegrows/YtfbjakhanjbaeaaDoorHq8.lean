/- The texts HgV HgE HgY as one. -/
import Derived.Test.YtfbjakhanjbaeaaDoorHq7
import Derived.Test.YtfbjakhanjbaeaaDoorHq6
import Derived.Test.YtfbjakhanjbaeaaDoorHq2
import Derived.Laws.MakeOwn
/- hedge's kept, Items: a range's records. -/
namespace Go.Proofs.YtfbjakhanjbaeaaDoor
open Go.RowKit Go.Maps Go.Sort Go.Shelf Go.Lib
set_option linter.unusedVariables false
set_option linter.unusedSimpArgs false

/-- a row is stored into a block; the world behind it by a name of its own -/
theorem wl_rowU {P : Program} {ops : Array Oper} {rest : List Oper} {o : Oper} {a : Act} {w : World} {Q : Exit → Act → World → Prop} (hgd : o.guard = none) (ty : TypeId) (x y : Operand) (ho : o.op = .store ty x y)
    (g : Nat) (C : List Value) (hx : a.eval x = .pointer (some ⟨g, 0, none⟩)) (hy : a.eval y = .agg C.toArray)
    (t : TypeId) (old : Array Value) (hg : w.heap[g]? = some (.cells old t (0, 0))) (n : Nat) (hi : (P.info? ty).map (·.size) = some n) (hC : C.length = n) (hold : old.size = n) (h1 : ∀ u ∈ C, u.oneCell' = true)
    (h : ∀ U, U.heap[g]? = some (.cells C.toArray t (0, 0)) → Of1 g w U → wpList P ops Q rest (a.put o.dst undef) U) : wpList P ops Q (o :: rest) a w :=
  wpList_store_row hgd ty x y ho g C.toArray hx hy t old hg (by simpa [hC] using hi) (by simp [hC, hold]) (all_one h1) (h _ (setRow_heap w g old C.toArray t (0, 0) hg) (of1_setRow w g _))
theorem zRecW (W : World) : (zeroValue 48).run Tryd.prog W = .ok (.agg zRec.toArray) W := zeroRc W
theorem zRec_sz : zRec.toArray.size = 65 := by simp [zRec]
attribute [local go_sem ↓] zRecW
theorem rng_of {w : World} {b : Nat} {C : Array Value} {L : List Value} {t : TypeId} (h : w.heap[b]? = some (.cells C t (0, 0))) (hC : C = L.toArray) : w.rangeAt b 0 L := by subst hC; exact range_of h

set_option maxHeartbeats 4000000 in
set_option maxRecDepth 8000 in
theorem kept_x (l : List HG.R) (p : HG.R → Bool) (v : Value) (g : Nat) (cb : Array Value) (W : World) (hv : SL W v l) (hl : l.length ≤ 1000)
    (eg : ∀ args w, (callFunc g args).run Tryd.prog w = .ok (.enter g args) w) (hp : ∀ x V, Bl W V → Calls Tryd.prog g (#[.agg (fR x).toArray] ++ cb) V fun e w' => e = .returned (.bool (p x)) ∧ Bl V w') :
    Calls Tryd.prog 33 #[v, .func (.func g) #[] cb] W fun e w' => ∃ v', e = .returned v' ∧ w'.ownsRow W.heap.size 48 65 v' (l.filter p).length (flG lyR (l.filter p)) ∧ Bl W w' := by
  obtain ⟨a, c, rfl, hrs, hnn⟩ := hv
  have HRS := hidI hrs
  have HP := hidI hp
  obtain ⟨n, hn⟩ : ∃ n, n = l.length := ⟨_, rfl⟩
  have HN := hidI hn
  rw [← hn] at hl ⊢
  obtain ⟨fs, hum⟩ := undRc
  clear hrs hp hnn hn
  go_enter Tryd.func33, Tryd.ntmps33
  go_wp2_with fail
  go_loopw [5, 7, 10] (fun u5 _ u10 wr => ∃ i : Nat, i ≤ n ∧ u10 = .int .i64 i ∧ wr.ownsRow W.heap.size 48 65 u5 ((l.take i).filter p).length (flG lyR ((l.take i).filter p)) ∧ Bl W wr) (fun _ _ u10 _ => n - (intOf u10).toNat)
  case atStart => exact ⟨0, Nat.zero_le _, rfl, ⟨rfl, Or.inl ⟨rfl, rfl⟩⟩, Bl.refl _⟩
  case round =>
    obtain ⟨i, hin, rfl, ho, hb⟩ := hrel
    have HO := hidI ho
    have HB := hidI hb
    clear ho hb
    by_cases hlt : i < n
    · have hltz : (i : Int) < (n : Int) := by omega
      obtain ⟨r, hr⟩ : ∃ r, l[i]? = some r := ⟨l[i]'(by have := HN.out; omega), List.getElem?_eq_getElem (by have := HN.out; omega)⟩
      obtain ⟨b, off, rfl, hbs, hrg⟩ := (HRS.out.bl HB.out) i r hr
      have HR : Hid (wr.rangeAt b (off + i * 65) (fR r)) := hrg
      have HT : Hid (l.take (i + 1) = l.take i ++ [r]) := by show _ = _; rw [List.take_add_one, hr]; rfl
      obtain ⟨LX, hLX⟩ : ∃ LX, LX = (l.take i).filter p := ⟨_, rfl⟩
      have HLX := hidI hLX
      rw [← hLX] at HO
      have hll : LX.length ≤ 1000 := by
        have h1 := List.length_filter_le p (l.take i)
        rw [hLX]; simp at h1 ⊢; omega
      have HI := hidI (one_infoR r)
      have HL1 := hidI (fR_len r)
      have HO1 := hidI (fR_one r)
      have CP := hidI (fun V (h : Bl W V) => HP.out r V h)
      have HZ : Hid ((wr.alloc (.cells zRec.toArray 48)).heap[wr.heap.size]? = some (.cells zRec.toArray 48 (0, 0))) := heap_alloc_new _ _
      have HA : Hid (∀ U, Of1 wr.heap.size (wr.alloc (.cells zRec.toArray 48)) U → Bl wr U) := fun U h => h.bl ((Bl.refl wr).alloc _) (Nat.le_refl _)
      have hzs := zRec_sz
      have HFR := hidI (show fR r = lyR.f r from rfl)
      clear hr hbs hrg hLX
      cases hq : p r with
      | false =>
        have HK : Hid ((l.take (i + 1)).filter p = LX) := by show _ = _; rw [HT.out, HLX.out, List.filter_append]; simp [hq]
        rw [hq] at CP
        clear hq HT HLX HP
        generalize fR r = F at *
        go_wp2_with (first
          | go_skip
          | (refine wl_midG (by rfl) 48 _ rfl b (off + i * 65) rfl F _ HR.out hum rfl HI.out ?_; clear HR)
          | (refine wl_rowU rfl 48 _ _ rfl wr.heap.size F rfl rfl 48 zRec.toArray HZ.out 65 infoRc HL1.out hzs HO1.out ?_; intro U hU1 hU2; have HU := hidI hU1; have HBU := hidI (HA.out U hU2); clear hU1 hU2 HZ HA)
          | (refine wl_midG (by rfl) 48 _ rfl wr.heap.size 0 rfl F _ (range_of HU.out) hum rfl HI.out ?_)
          | (go_at_fn g; refine Calls.mono (CP.out _ (HB.out.step HBU.out)) ?_; clear CP; rintro e w1 ⟨rfl, b1⟩))
        go_roundw
        case rel => exact ⟨i + 1, by omega, by go_num, by rw [HK.out]; exact ownsRow_bl (ownsRow_bl HO.out HBU.out) b1, (HB.out.step HBU.out).step b1⟩
        case measure => simp [intOf]; omega
      | true =>
        have HK : Hid ((l.take (i + 1)).filter p = LX ++ [r]) := by show _ = _; rw [HT.out, HLX.out, List.filter_append]; simp [hq]
        rw [hq] at CP
        clear hq HT HLX HP
        generalize fR r = F at *
        have HL2 := hidI (len1 HL1)
        go_wp2_with (first
          | go_skip
          | (refine wl_midG (by rfl) 48 _ rfl b (off + i * 65) rfl F _ HR.out hum rfl HI.out ?_; clear HR)
          | (refine wl_rowU rfl 48 _ _ rfl wr.heap.size F rfl rfl 48 zRec.toArray HZ.out 65 infoRc HL1.out hzs HO1.out ?_; intro U hU1 hU2; have HU := hidI hU1; have HBU := hidI (HA.out U hU2); clear hU1 hU2 HZ HA)
          | (go_at_fn g; refine Calls.mono (CP.out _ (HB.out.step HBU.out)) ?_; clear CP; rintro e w1 ⟨rfl, b1⟩; have HU2 := hidI (Bl.heap b1 HU.out); have HBX := hidI ((HB.out.step HBU.out).step b1); have HOX := hidI (ownsRow_bl (ownsRow_bl HO.out HBU.out) b1))
          | (refine wl_midG (by rfl) 48 _ rfl wr.heap.size 0 rfl F _ (range_of HU2.out) hum rfl HI.out ?_)
          | (refine wl_midG (by rfl) 48 _ rfl wr.heap.size 0 rfl F _ (range_of HU.out) hum rfl HI.out ?_)
          | (refine wl_bs (by rfl) 22 48 1 _ rfl [F] (by simp only [List.map_toArray, List.map_cons, List.map_nil]; rfl) rfl 65 HL2.out F (by simp) 72 _ undRs infoRc3 (by decide) (by decide) (by decide) (by decide) ?_)
          | (refine wl_app1M lyR 48 22 _ 72 undRs infoRc3 zRec_size (by decide) rfl _ _ rfl LX.length LX rfl r u5 rfl HBX.out HOX.out w1.heap.size rfl rfl (by omega) ?_ F.toArray (by rw [HFR.out]) rfl; intro a' c' w2 g1 g2 g3))
        go_roundw
        case rel => exact ⟨i + 1, by omega, by go_num, by rw [HK.out, List.length_append]; exact g1, g2⟩
        case measure => simp [intOf]; omega
    · obtain rfl : i = n := by omega
      have HE : Hid ((l.take i).filter p = l.filter p) := by show _ = _; rw [HN.out, List.take_length]
      rw [HE.out] at HO
      have hltz : ¬ (i : Int) < (i : Int) := by omega
      clear HE HRS HP
      go_wp2_with fail
      go_ret
      exact ⟨u5, rfl, HO.out, HB.out⟩

theorem sl_own {N : Nat} {W : World} {v : Value} {l : List HG.R} (h : W.ownsRow N 48 65 v l.length (flG lyR l)) : SL W v l := by
  obtain ⟨a, c, rfl, hrs⟩ := owns_rs lyR h
  refine ⟨a, c, rfl, hrs, fun ha => ?_⟩
  subst ha
  obtain ⟨_, ⟨h1, h2⟩ | ⟨g', cap', cur, h1, _⟩⟩ := h
  · simp only [Value.slice.injEq] at h1
    exact ⟨List.length_eq_zero_iff.1 h2, h1.2.2⟩
  · cases h1
theorem gn_bl {W V : World} (h : Gn W V) : Bl W V := h.below
namespace HG
/-- a range's records -/
def items (r : G) (l : List R) : List R := srt (l.filter fun x => inn r x.k)
end HG
set_option maxRecDepth 8000 in
theorem inC_x (r : HG.G) (x : HG.R) (br : Nat) (V : World) (hbr : V.heap[br]? = some (.cells (fG r).toArray 26 (0, 0))) :
    Calls Tryd.prog 34 #[.agg (fR x).toArray, .pointer (some ⟨br, 0, none⟩)] V fun e w' => e = .returned (.bool (HG.inn r x.k)) ∧ Bl V w' := by
  have h0 : (V.alloc (.cells (fR x).toArray 48)).heap[V.heap.size]? = some (.cells (fR x).toArray 48 (0, 0)) := heap_alloc_new _ _
  have h1 : (V.alloc (.cells (fR x).toArray 48)).heap[br]? = some (.cells (fG r).toArray 26 (0, 0)) := ((Bl.refl V).alloc _).heap hbr
  have HR1 := hidI (range_of h1)
  have HR0 : Hid ((V.alloc (.cells (fR x).toArray 48)).rangeAt V.heap.size 0 (x.k.map vb)) := range_part h0 [] (x.k.map vb) _ 0 rfl rfl
  have HI1 := hidI (one_infoG r)
  have HI0 : Hid ((Tryd.prog.info? 24).map (·.size) = some (x.k.map vb).length) := by
    show _ = _
    rw [List.length_map, x.hk]; exact info27
  have HB := hidI ((Bl.refl V).alloc (.cells (fR x).toArray 48))
  have C1 : Hid (∀ U, Calls Tryd.prog 21 #[.agg (fG r).toArray, .agg (x.k.map vb).toArray] U fun e w' => e = .returned (.bool (HG.inn r x.k)) ∧ Gn U w') := fun U => In_gn r x.k x.hk U
  have hsz : (fR x).toArray.size = 65 := by simp [fR_len]
  obtain ⟨fs, hum⟩ := undRc
  obtain ⟨gs, huG⟩ := undRg
  clear h0 h1 hbr
  generalize x.k.map vb = K at *
  generalize fG r = F at *
  generalize (fR x).toArray = C at *
  generalize HG.inn r x.k = q at *
  go_enter Tryd.func34, Tryd.ntmps34
  go_wp2_with (first
    | go_skip
    | (refine wl_midG (by rfl) 26 _ rfl br 0 rfl F _ HR1.out huG rfl HI1.out ?_)
    | (refine wl_midG (by rfl) 24 _ rfl V.heap.size 0 rfl K _ HR0.out und27 rfl HI0.out ?_)
    | (go_at_call 21; refine (C1.out _).mono ?_; rintro e w1 ⟨rfl, g1⟩))
  go_ret
  exact ⟨rfl, HB.out.step (gn_bl g1)⟩
theorem egI : ∀ args w, (callFunc 34 args).run Tryd.prog w = .ok (.enter 34 args) w := enters_of Tryd.func34 (by kernel_rfl) rfl
set_option maxRecDepth 8000 in
theorem Items_x (r : HG.G) (l : List HG.R) (v : Value) (W : World) (hv : SL W v l) (hl : l.length ≤ 1000) :
    Calls Tryd.prog 15 #[.agg (fG r).toArray, v] W fun e w' => ∃ v', e = .returned v' ∧ w'.ownsRow W.heap.size 48 65 v' (HG.items r l).length (flG lyR (HG.items r l)) ∧ Bl W w' := by
  have hb0 := (Bl.refl W).alloc (.cells (fG r).toArray 26)
  have hv1 : SL (W.alloc (.cells (fG r).toArray 26)) v l := by
    obtain ⟨a, c, e, h1, h2⟩ := hv
    exact ⟨a, c, e, h1.bl hb0, h2⟩
  have hbr : (W.alloc (.cells (fG r).toArray 26)).heap[W.heap.size]? = some (.cells (fG r).toArray 26 (0, 0)) := heap_alloc_new _ _
  have C1 := hidI (kept_x l (fun x => HG.inn r x.k) v 34 #[.pointer (some ⟨W.heap.size, 0, none⟩)] _ hv1 hl egI (fun x V hV => inC_x r x W.heap.size V (hV.heap hbr)))
  have hl2 : (l.filter fun x => HG.inn r x.k).length ≤ 1000 := Nat.le_trans (List.length_filter_le _ _) hl
  have C2 := hidI (fun v V h => Sort_x (l.filter fun x => HG.inn r x.k) v V h hl2)
  have HB := hidI hb0
  have hsz : (fG r).toArray.size = 35 := by simp [fG_len]
  unfold HG.items
  clear hv hv1 hbr hb0
  generalize (fG r).toArray = C at *
  go_enter Tryd.func15, Tryd.ntmps15
  go_wp2_with (first
    | go_skip
    | (go_at_call 33; refine C1.out.mono ?_; clear C1; rintro e w1 ⟨v1, rfl, o1, b1⟩)
    | (go_at_call 17; refine (C2.out _ _ (sl_own o1)).mono ?_; clear C2; rintro e w2 ⟨v2, rfl, o2, b2⟩))
  go_ret
  refine ⟨_, rfl, own_less o2 ?_, (HB.out.step b1).step b2⟩
  have := (HB.out.step b1).size
  exact this
end Go.Proofs.YtfbjakhanjbaeaaDoor

/- hedge.text, each: the texts of which a range's digest is made. -/
namespace Go.Proofs.YtfbjakhanjbaeaaDoor
open Go.RowKit Go.Maps Go.Sort Go.Shelf Go.Lib
set_option linter.unusedVariables false
set_option linter.unusedSimpArgs false

namespace HG
/-- a record's bytes -/
def tx (r : R) : List UInt8 := r.k ++ M.numB r.c ++ r.o
end HG
theorem convB {W : World} {b o : Nat} {l : List UInt8} (c : Nat) (h : W.rangeAt b o (l.map vb)) : (convert 64 9 (.slice (some ⟨b, o, none⟩) l.length c)).run Tryd.prog W = .ok (.string (M.bs l)) W :=
  run_convert_bytes_back (P := Tryd.prog) _ 64 9 5 ⟨b, o, none⟩ c l Tryd.underlying64 Tryd.underlying5 Tryd.underlying9 (fun j hj => by
    rw [Addr.add_mid]
    exact h j _ (by rw [List.getElem?_map, List.getElem?_eq_getElem hj]; rfl))
set_option maxHeartbeats 2000000 in
set_option maxRecDepth 8000 in
theorem text_x (r : HG.R) (W : World) : Calls Tryd.prog 46 #[.agg (fR r).toArray] W fun e w' => e = .returned (.string (M.bs (HG.tx r))) ∧ Bl W w' := by
  obtain ⟨V0, hV0⟩ : ∃ V0, V0 = W.alloc (.cells (fR r).toArray 48) := ⟨_, rfl⟩
  have h0 : V0.heap[W.heap.size]? = some (.cells (fR r).toArray 48 (0, 0)) := by rw [hV0]; exact heap_alloc_new _ _
  have r1 : V0.rangeAt W.heap.size 0 (r.k.map vb) := range_part h0 [] (r.k.map vb) _ 0 rfl rfl
  have r2 : V0.rangeAt W.heap.size 33 (r.o.map vb) := range_part h0 (r.k.map vb ++ [Value.int .i64 r.c]) (r.o.map vb) [] 33 (by simp [fR]) (by simp [r.hk])
  have rc : V0.cell? ⟨W.heap.size, 32, none⟩ = some (.int .i64 r.c) := by
    have := range_part h0 (r.k.map vb) [Value.int .i64 r.c] (r.o.map vb) 32 (by simp [fR]) (by simp [r.hk]) 0 _ rfl
    simpa using this
  have hlt : W.heap.size < V0.heap.size := lt_heap h0
  have HC1 : Hid (∀ U, Bl V0 U → (convert 64 9 (.slice (some ⟨W.heap.size, 0, none⟩) 32 32)).run Tryd.prog U = .ok (.string (M.bs r.k)) U) := fun U h => by
    have := convB 32 (Bl.range h hlt r1); rwa [r.hk] at this
  have HC2 : Hid (∀ U, Bl V0 U → (convert 64 9 (.slice (some ⟨W.heap.size, 33, none⟩) 32 32)).run Tryd.prog U = .ok (.string (M.bs r.o)) U) := fun U h => by
    have := convB 32 (Bl.range h hlt r2); rwa [r.ho] at this
  have HCC : Hid (∀ U, Bl V0 U → U.cell? ⟨W.heap.size, 32, none⟩ = some (.int .i64 r.c)) := fun U h => by rw [Bl.cell h hlt]; exact rc
  have CN : Hid (∀ U, Calls Tryd.prog 40 #[.int .i64 r.c] U fun e w' => e = .returned (.string (M.bs (M.numB r.c))) ∧ Bl U w') := fun U => num_any r.c U (by have := r.h1; omega) (by have := r.h2; omega)
  have HBV : Hid (Bl W V0) := by rw [hV0]; exact (Bl.refl W).alloc _
  have HV0 := hidI hV0
  have s1 : (M.bs r.k).size = 32 := by rw [M.bs_size, r.hk]
  have s2 : (M.bs r.o).size = 32 := by rw [M.bs_size, r.ho]
  have s3 : (M.bs (M.numB r.c)).size ≤ 1000 := by rw [M.bs_size]; have := M.numB_len r.c; omega
  have HFIN : Hid (Ending.returned (.string (M.bs r.k ++ M.bs (M.numB r.c) ++ M.bs r.o)) = Ending.returned (.string (M.bs (HG.tx r)))) := by
    show _ = _
    unfold HG.tx
    rw [bs_append, bs_append]
  have hsz : (fR r).toArray.size = 65 := by simp [fR_len]
  clear h0 r1 r2 rc hlt hV0
  obtain ⟨R0, hR0⟩ : ∃ R0, R0 = M.bs (HG.tx r) := ⟨_, rfl⟩
  rw [← hR0] at HFIN ⊢
  clear hR0
  generalize (fR r).toArray = C at *
  generalize M.bs r.k = SK at *
  generalize M.bs r.o = SO at *
  generalize M.bs (M.numB r.c) = SN at *
  generalize r.c = c at *
  have n1 : ¬ (9223372036854775807 < SK.size + SN.size) := by omega
  have n2 : ¬ (9223372036854775807 < (SK ++ SN).size + SO.size) := by rw [ByteArray.size_append]; omega
  have n3 : ¬ (9223372036854775807 < SK.size + SN.size + SO.size) := by omega
  clear s1 s2 s3
  go_enter Tryd.func46, Tryd.ntmps46
  go_wp2_with fail
  rw [← HV0.out]
  refine wp_region_noPanic ?_
  refine wp_region_held_drew (S := fun U => Bl V0 U) (by kernel_rfl) (((Bl.refl V0).drew)) (fun hHeld => ?_)
  refine wpAnyH_take (i := 0) (v := ?_) rfl (by kernel_rfl) (by kernel_rfl) (by kernel_rfl) (fun _ _ _ h => h) (Or.inl ⟨by kernel_rfl, ?_⟩) (by assumption) ?_
  rotate_left
  · (intro w hSw; (try dsimp only at hSw); go_simp; (try with_reducible rfl))
  simp only [Act.put, List.getElem_toArray, List.getElem_cons_succ, List.getElem_cons_zero, List.setIfInBounds_toArray, List.set_cons_zero, List.set_cons_succ, Act.eval, Array.getD_eq_getD_getElem?, List.getElem?_toArray, List.getElem?_cons_succ, List.getElem?_cons_zero, Option.getD_some]
  refine wpAnyH_take (i := 1) (v := ?_) rfl (by kernel_rfl) (by kernel_rfl) (by kernel_rfl) (fun _ _ _ h => h) (Or.inl ⟨by kernel_rfl, ?_⟩) (by assumption) ?_
  rotate_left
  · (intro w hSw; (try dsimp only at hSw); go_simp; (try with_reducible rfl))
  simp only [Act.put, List.getElem_toArray, List.getElem_cons_succ, List.getElem_cons_zero, List.setIfInBounds_toArray, List.set_cons_zero, List.set_cons_succ, Act.eval, Array.getD_eq_getD_getElem?, List.getElem?_toArray, List.getElem?_cons_succ, List.getElem?_cons_zero, Option.getD_some]
  refine wpAnyH_take (i := 2) (v := ?_) rfl (by kernel_rfl) (by kernel_rfl) (by kernel_rfl) (fun _ _ _ h => h) (Or.inl ⟨by kernel_rfl, ?_⟩) (by assumption) ?_
  rotate_left
  · (intro w hSw; have hX := HC1.out _ hSw; go_simp; (try with_reducible rfl))
  simp only [Act.put, List.getElem_toArray, List.getElem_cons_succ, List.getElem_cons_zero, List.setIfInBounds_toArray, List.set_cons_zero, List.set_cons_succ, Act.eval, Array.getD_eq_getD_getElem?, List.getElem?_toArray, List.getElem?_cons_succ, List.getElem?_cons_zero, Option.getD_some]
  refine wpAnyH_take (i := 3) (v := ?_) rfl (by kernel_rfl) (by kernel_rfl) (by kernel_rfl) (fun _ _ _ h => h) (Or.inl ⟨by kernel_rfl, ?_⟩) (by assumption) ?_
  rotate_left
  · (intro w hSw; (try dsimp only at hSw); go_simp; (try with_reducible rfl))
  simp only [Act.put, List.getElem_toArray, List.getElem_cons_succ, List.getElem_cons_zero, List.setIfInBounds_toArray, List.set_cons_zero, List.set_cons_succ, Act.eval, Array.getD_eq_getD_getElem?, List.getElem?_toArray, List.getElem?_cons_succ, List.getElem?_cons_zero, Option.getD_some]
  refine wpAnyH_take (i := 4) (v := ?_) rfl (by kernel_rfl) (by kernel_rfl) (by kernel_rfl) (fun _ _ _ h => h) (Or.inl ⟨by kernel_rfl, ?_⟩) (by assumption) ?_
  rotate_left
  · (intro w hSw; have hX := HCC.out _ hSw; go_simp; (try with_reducible rfl))
  simp only [Act.put, List.getElem_toArray, List.getElem_cons_succ, List.getElem_cons_zero, List.setIfInBounds_toArray, List.set_cons_zero, List.set_cons_succ, Act.eval, Array.getD_eq_getD_getElem?, List.getElem?_toArray, List.getElem?_cons_succ, List.getElem?_cons_zero, Option.getD_some]
  refine wpAnyH_take (i := 7) (v := ?_) rfl (by kernel_rfl) (by kernel_rfl) (by kernel_rfl) (fun _ _ _ h => h) (Or.inl ⟨by kernel_rfl, ?_⟩) (by assumption) ?_
  rotate_left
  · (intro w hSw; (try dsimp only at hSw); go_simp; (try with_reducible rfl))
  simp only [Act.put, List.getElem_toArray, List.getElem_cons_succ, List.getElem_cons_zero, List.setIfInBounds_toArray, List.set_cons_zero, List.set_cons_succ, Act.eval, Array.getD_eq_getD_getElem?, List.getElem?_toArray, List.getElem?_cons_succ, List.getElem?_cons_zero, Option.getD_some]
  refine wpAnyH_take (i := 8) (v := ?_) rfl (by kernel_rfl) (by kernel_rfl) (by kernel_rfl) (fun _ _ _ h => h) (Or.inl ⟨by kernel_rfl, ?_⟩) (by assumption) ?_
  rotate_left
  · (intro w hSw; (try dsimp only at hSw); go_simp; (try with_reducible rfl))
  simp only [Act.put, List.getElem_toArray, List.getElem_cons_succ, List.getElem_cons_zero, List.setIfInBounds_toArray, List.set_cons_zero, List.set_cons_succ, Act.eval, Array.getD_eq_getD_getElem?, List.getElem?_toArray, List.getElem?_cons_succ, List.getElem?_cons_zero, Option.getD_some]
  refine wpAnyH_take (i := 9) (v := ?_) rfl (by kernel_rfl) (by kernel_rfl) (by kernel_rfl) (fun _ _ _ h => h) (Or.inl ⟨by kernel_rfl, ?_⟩) (by assumption) ?_
  rotate_left
  · (intro w hSw; have hX := HC2.out _ hSw; go_simp; (try with_reducible rfl))
  simp only [Act.put, List.getElem_toArray, List.getElem_cons_succ, List.getElem_cons_zero, List.setIfInBounds_toArray, List.set_cons_zero, List.set_cons_succ, Act.eval, Array.getD_eq_getD_getElem?, List.getElem?_toArray, List.getElem?_cons_succ, List.getElem?_cons_zero, Option.getD_some]
  refine wpAnyH_ready (rs := [5]) (by kernel_rfl) (by simp) ?_
  refine AllReadyH.cons (o := _) rfl (fun K hK => ?_) AllReadyH.nil
  go_simp
  go_at_call 40; refine (CN.out _).mono ?_; rintro e V9 ⟨rfl, hV9⟩; have HB9 := ((Bl.refl V0).drew).step hV9; clear hV9
  (try clear hHeld)
  refine hK.out _ _ ((HB9)) (fun hHeld => ?_)
  clear hK K
  (try simp only [Act.put, List.getElem_toArray, List.getElem_cons_succ, List.getElem_cons_zero, List.setIfInBounds_toArray, List.set_cons_zero, List.set_cons_succ, Act.eval, Array.getD_eq_getD_getElem?, List.getElem?_toArray, List.getElem?_cons_succ, List.getElem?_cons_zero, Option.getD_some])
  refine wpAnyH_take (i := 6) (v := ?_) rfl (by kernel_rfl) (by kernel_rfl) (by kernel_rfl) (fun _ _ _ h => h) (Or.inl ⟨by kernel_rfl, ?_⟩) (by assumption) ?_
  rotate_left
  · (intro w hSw; (try dsimp only at hSw); go_simp; (try with_reducible rfl))
  simp only [Act.put, List.getElem_toArray, List.getElem_cons_succ, List.getElem_cons_zero, List.setIfInBounds_toArray, List.set_cons_zero, List.set_cons_succ, Act.eval, Array.getD_eq_getD_getElem?, List.getElem?_toArray, List.getElem?_cons_succ, List.getElem?_cons_zero, Option.getD_some]
  refine wpAnyH_take (i := 10) (v := ?_) rfl (by kernel_rfl) (by kernel_rfl) (by kernel_rfl) (fun _ _ _ h => h) (Or.inl ⟨by kernel_rfl, ?_⟩) (by assumption) ?_
  rotate_left
  · (intro w hSw; (try dsimp only at hSw); go_simp; (try with_reducible rfl))
  simp only [Act.put, List.getElem_toArray, List.getElem_cons_succ, List.getElem_cons_zero, List.setIfInBounds_toArray, List.set_cons_zero, List.set_cons_succ, Act.eval, Array.getD_eq_getD_getElem?, List.getElem?_toArray, List.getElem?_cons_succ, List.getElem?_cons_zero, Option.getD_some]
  refine wpAnyH_take (i := 11) rfl (by kernel_rfl) (by kernel_rfl) (by kernel_rfl) (fun _ _ _ h => h) (yi_assign (by kernel_rfl) rfl rfl) (by assumption) ?_
  simp only [Act.put, List.getElem_toArray, List.getElem_cons_succ, List.getElem_cons_zero, List.setIfInBounds_toArray, List.set_cons_zero, List.set_cons_succ, Act.eval, Array.getD_eq_getD_getElem?, List.getElem?_toArray, List.getElem?_cons_succ, List.getElem?_cons_zero, Option.getD_some]
  refine wpAnyH_done (by kernel_rfl) ?_ _
  refine NoPanic.normal ?_
  go_wp2_with fail
  go_ret
  exact ⟨HFIN.out, HBV.out.step HB9⟩
end Go.Proofs.YtfbjakhanjbaeaaDoor

/- hedge's each: the texts of some records, in a row of one's own. -/
namespace Go.Proofs.YtfbjakhanjbaeaaDoor
open Go.RowKit Go.Maps Go.Sort Go.Shelf Go.Lib
set_option linter.unusedVariables false
set_option linter.unusedSimpArgs false

def lyT : Lay (List UInt8) := ⟨1, fun t => [encS t], fun _ => rfl, fun x u hu => by simp at hu; subst hu; rfl, by decide⟩
theorem flG_T (l : List (List UInt8)) : flG lyT l = l.map encS := by
  induction l with
  | nil => rfl
  | cons x l ih => rw [List.map_cons, ← ih]; rfl
theorem infoTx3 : (Tryd.prog.info? 9).map (fun i => (i.zero, i.size, i.bytes)) = some (some (.string ⟨#[]⟩), 1, 16) := by kernel_rfl
theorem undTs : Tryd.prog.underlying 55 = some (.slice 9) := Tryd.underlying55
theorem make_T (n : Nat) (hn : n ≤ 1000) (W : World) : ∃ W1, (Instr.makeSlice 55 (.int .i64 0) (.int .i64 (n : Int))).run Tryd.prog W = .ok (.slice (some ⟨W.heap.size, 0, none⟩) 0 n) W1 ∧
    W1.ownsRow W.heap.size 9 1 (.slice (some ⟨W.heap.size, 0, none⟩) 0 n) ([] : List (List UInt8)).length (flG lyT []) ∧ Bl W W1 := by
  obtain ⟨i, hi, hz, hs, hb⟩ := info_partsT infoTx3
  obtain ⟨w', h1, h2, h3⟩ := run_makeSlice_owned (P := Tryd.prog) (w := W) W.heap.size 55 9 i _ 1 undTs hi hz hs .i64 .i64 n (by omega) (by rw [hb]; omega) (by unfold maxLen; omega) (Nat.le_refl _)
  exact ⟨w', h1, h2, h3.os, h3.tape, h3.output, h3.size, fun k hk => h3.block k hk (by simp)⟩
attribute [local go_sem ↓] zRecW
set_option maxHeartbeats 4000000 in
set_option maxRecDepth 8000 in
theorem each_x (l : List HG.R) (v : Value) (W : World) (hv : SL W v l) (hl : l.length ≤ 1000) :
    Calls Tryd.prog 45 #[v, .func (.func 46) #[] #[]] W fun e w' => ∃ v', e = .returned v' ∧ w'.ownsRow W.heap.size 9 1 v' (l.map HG.tx).length (flG lyT (l.map HG.tx)) ∧ Bl W w' := by
  obtain ⟨a, c, rfl, hrs, hnn⟩ := hv
  have HRS := hidI hrs
  obtain ⟨n, hn⟩ : ∃ n, n = l.length := ⟨_, rfl⟩
  have HN := hidI hn
  rw [← hn] at hl ⊢
  obtain ⟨fs, hum⟩ := undRc
  have eg : ∀ args w, (callFunc 46 args).run Tryd.prog w = .ok (.enter 46 args) w := enters_of Tryd.func46 (by kernel_rfl) rfl
  obtain ⟨W1, mk1, mk2, mk3⟩ := make_T n hl W
  have HM := hidI mk2
  have HM3 := hidI mk3
  clear hrs hnn hn mk2 mk3
  go_enter Tryd.func45, Tryd.ntmps45
  go_wp2_with fail
  go_loopw [5, 7, 13] (fun u5 _ u10 wr => ∃ i : Nat, i ≤ n ∧ u10 = .int .i64 i ∧ wr.ownsRow W.heap.size 9 1 u5 ((l.take i).map HG.tx).length (flG lyT ((l.take i).map HG.tx)) ∧ Bl W wr) (fun _ _ u10 _ => n - (intOf u10).toNat)
  case atStart => exact ⟨0, Nat.zero_le _, rfl, HM.out, HM3.out⟩
  case round =>
    obtain ⟨i, hin, rfl, ho, hb⟩ := hrel
    have HO := hidI ho
    have HB := hidI hb
    clear ho hb HM HM3 mk1
    by_cases hlt : i < n
    · have hltz : (i : Int) < (n : Int) := by omega
      obtain ⟨r, hr⟩ : ∃ r, l[i]? = some r := ⟨l[i]'(by have := HN.out; omega), List.getElem?_eq_getElem (by have := HN.out; omega)⟩
      obtain ⟨b, off, rfl, hbs, hrg⟩ := (HRS.out.bl HB.out) i r hr
      have HR : Hid (wr.rangeAt b (off + i * 65) (fR r)) := hrg
      have HT : Hid ((l.take (i + 1)).map HG.tx = (l.take i).map HG.tx ++ [HG.tx r]) := by show _ = _; rw [List.take_add_one, hr]; simp
      obtain ⟨LX, hLX⟩ : ∃ LX, LX = (l.take i).map HG.tx := ⟨_, rfl⟩
      have hll : LX.length ≤ 1000 := by rw [hLX]; simp; omega
      rw [← hLX] at HO HT
      have HI := hidI (one_infoR r)
      have HL1 := hidI (fR_len r)
      have HO1 := hidI (fR_one r)
      have CP := hidI (fun V => text_x r V)
      have HZ : Hid ((wr.alloc (.cells zRec.toArray 48)).heap[wr.heap.size]? = some (.cells zRec.toArray 48 (0, 0))) := heap_alloc_new _ _
      have HA : Hid (∀ U, Of1 wr.heap.size (wr.alloc (.cells zRec.toArray 48)) U → Bl wr U) := fun U h => h.bl ((Bl.refl wr).alloc _) (Nat.le_refl _)
      have hzs := zRec_sz
      clear hr hbs hrg hLX
      obtain ⟨t, ht⟩ : ∃ t, t = HG.tx r := ⟨_, rfl⟩
      rw [← ht] at CP HT
      have HET : Hid (encS t = .string (M.bs t)) := rfl
      clear ht
      generalize fR r = F at *
      go_wp2_with (first
        | go_skip
        | (refine wl_midG (by rfl) 48 _ rfl b (off + i * 65) rfl F _ HR.out hum rfl HI.out ?_; clear HR)
        | (refine wl_rowU rfl 48 _ _ rfl wr.heap.size F rfl rfl 48 zRec.toArray HZ.out 65 infoRc HL1.out hzs HO1.out ?_; intro U hU1 hU2; have HU := hidI hU1; have HBU := hidI (HA.out U hU2); clear hU1 hU2 HZ HA)
        | (refine wl_midG (by rfl) 48 _ rfl wr.heap.size 0 rfl F _ (range_of HU.out) hum rfl HI.out ?_)
        | (go_at_fn 46; refine Calls.mono (CP.out _) ?_; clear CP; rintro e w1 ⟨rfl, b1⟩; have HBX := hidI ((HB.out.step HBU.out).step b1); have HOX := hidI (ownsRow_bl (ownsRow_bl HO.out HBU.out) b1))
        | (refine wl_app1M lyT 9 55 _ 16 undTs infoTx3 rfl (by decide) rfl _ _ rfl LX.length LX rfl t u5 rfl HBX.out HOX.out w1.heap.size rfl rfl (by omega) ?_ _ rfl rfl; intro a' c' w2 g1 g2 g3))
      go_roundw
      case rel => exact ⟨i + 1, by omega, by go_num, by rw [HT.out, List.length_append]; exact g1, g2⟩
      case measure => simp [intOf]; omega
    · obtain rfl : i = n := by omega
      have HE : Hid (l.take i = l) := by show _ = _; rw [HN.out, List.take_length]
      rw [HE.out] at HO
      have hltz : ¬ (i : Int) < (i : Int) := by omega
      clear HE HRS
      go_wp2_with fail
      go_ret
      exact ⟨u5, rfl, by have := HO.out; first | exact this | rwa [List.length_map] at this, HB.out⟩
end Go.Proofs.YtfbjakhanjbaeaaDoor
