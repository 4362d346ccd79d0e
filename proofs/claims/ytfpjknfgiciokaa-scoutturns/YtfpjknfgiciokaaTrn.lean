/- ScoutTurns: the walk. -/
import Derived.Test.YtfpjknfgiciokaaScL
namespace Go.Proofs.Ytfpjknfgiciokaa
open Go.RowKit Go.Maps
set_option linter.unusedVariables false
set_option linter.unusedSimpArgs false

theorem build69 : Try.prog.built t7 [] = some (sb []).toArray := by kernel_rfl
theorem info69 : (Try.prog.info? t7).map (·.size) = some 7 := by kernel_rfl
/-- the draw of a tick -/
def drw (ds : List Int) (tt : Nat) : Int := if 0 < ds.length then ds.getD (tt % ds.length) 0 else tt
theorem drw_i64 {ds : List Int} (h : ∀ x ∈ ds, i64 x) {tt : Nat} (ht : tt < 1000) : i64 (drw ds tt) := by
  unfold drw
  split
  · rename_i hl
    have hlt : tt % ds.length < ds.length := Nat.mod_lt _ hl
    rw [List.getD_eq_getElem?_getD, List.getElem?_eq_getElem hlt]
    exact h _ (List.getElem_mem hlt)
  · exact ⟨by omega, by omega⟩
set_option maxRecDepth 8000 in
set_option maxHeartbeats 16000000 in
theorem turns_walk (w : World) (n0 : Int) (hn0 : i64 n0) (me0 : Int) (hme0 : i64 me0) (ds : List Int) (da : Option Addr) (dc : Nat) (hds : RS lyI w da ds) (hdl : ds.length ≤ 9223372036854775807) (hdi : ∀ x ∈ ds, i64 x) :
    Calls Try.prog 6 #[.int .i64 n0, .int .i64 me0, .slice da ds.length dc] w fun e w' => e = .returned (.bool true) ∧ Bl w w' := by
  have CA : Hid (Calls Try.prog 8 #[] w fun e w' => e = .returned (.bool true) ∧ Bl w w') := awake_12 (Bl.refl w)
  have hx1 : Int.tmod (IntKind.u64.wrap n0) 5 = (um12 n0 5 : Int) := um12_wrap n0 5
  have hx2 := um12_lt n0 5 (by omega)
  obtain ⟨n, hn⟩ : ∃ n, n = 2 + um12 n0 5 := ⟨_, rfl⟩
  have hy1 : Int.tmod (IntKind.u64.wrap me0) (2 + (um12 n0 5 : Int)) = (um12 me0 n : Int) := by
    have := um12_wrap me0 n
    rw [hn] at this ⊢
    exact this
  have hy2 := um12_lt me0 n (by omega)
  generalize um12 n0 5 = u at *
  generalize um12 me0 n = v at *
  obtain ⟨me, hme⟩ : ∃ me : Int, me = 1 + (v : Int) := ⟨_, rfl⟩
  have CN : Hid (∀ U, Bl w U → Calls Try.prog 12 #[.int .i64 me, .int .i64 (n : Int)] U fun e w' => ∃ p, e = .returned (.pointer (some ⟨p, 0, none⟩)) ∧ LW w p 6 (SO.new me n) (fun _ => True) w') := fun U hU => (New_yes me n (by omega) (by omega) (by omega) (by omega) U).mono fun e w' ⟨p, B, h1, h2⟩ => ⟨p, h1, (LW.new h2).base hU⟩
  have TT : Hid (∀ tt k i s p q seen U, Tn me n s tt k i seen → tt < 100 → TWs w p (6 + 11 * tt) s q (sb seen) U → k + 1 < n → i = 0 → Calls Try.prog 13 #[.pointer (some ⟨p, 0, none⟩), .int .i64 (drw ds tt)] U fun e w' => ∃ b off c x sq L, e = .returned (.slice (some ⟨b, off, none⟩) 1 c) ∧ w'.rangeAt b off L ∧ L.length = 238 ∧ L.toArray.all (·.oneCell') = true ∧ L[0]? = some (.int .i64 x) ∧ L[1]? = some (.int .i64 1) ∧ L[3]? = some (.int .i64 sq) ∧ (1 ≤ x ∧ x ≤ 6 ∧ x ≠ me ∧ (sb seen)[x.toNat]? = some (.bool false) ∧ (sb seen).set x.toNat (.bool true) = sb (seen ++ [x])) ∧ ∃ s', TWs w p (6 + 11 * tt + 10) s' q (sb seen) w' ∧ Tn me n (SO.hear s' ⟨0, 2, x, sq, x, []⟩).1 (tt + 1) k 1 (seen ++ [x])) := fun tt k i s p q seen U h ht hw hk hi => by
    subst hi
    obtain ⟨x, sq, e1, e2, x1, x2, x3, x4, t1⟩ := h.ask hk (drw ds tt)
    refine (hw.tick (by omega) _ (drw_i64 hdi (by omega))).mono ?_
    rintro e w' ⟨a, c, h1, h2, h3⟩
    rw [e1] at h1 h3
    obtain ⟨b, off, ra, rc, hab, hlt, hrg⟩ := h3 0 _ rfl
    rw [Nat.zero_mul, Nat.add_zero] at hrg
    refine ⟨b, off, c, x, sq, _, by rw [h1, hab]; rfl, hrg, snL_len zM_len, all_one (snL_one zM_one rfl), rfl, rfl, rfl, ⟨x1, by omega, x3, by rw [sb_at seen (by omega), x4], sb_set seen (by omega)⟩, _, h2, t1⟩
  have TR : Hid (∀ tt k i s p q seen U, Tn me n s tt k i seen → tt < 100 → TWs w p (6 + 11 * tt) s q (sb seen) U → 1 ≤ i → i < 4 → Calls Try.prog 13 #[.pointer (some ⟨p, 0, none⟩), .int .i64 (drw ds tt)] U fun e w' => ∃ a c, e = .returned (.slice a 0 c) ∧ ∃ s', TWs w p (6 + 11 * (tt + 1)) s' q (sb seen) w' ∧ Tn me n s' (tt + 1) k (i + 1) seen) := fun tt k i s p q seen U h ht hw hi h4 => by
    obtain ⟨e1, t1⟩ := h.rest hi h4 (drw ds tt)
    refine (hw.tick (by omega) _ (drw_i64 hdi (by omega))).mono ?_
    rintro e w' ⟨a, c, h1, h2, h3⟩
    rw [e1] at h1
    exact ⟨a, c, h1, _, h2.more (by omega), t1⟩
  have TH : Hid (∀ s p q L U tt x sq C, tt < 100 → C = (frL 2 x sq x zM nilV).toArray → 1 ≤ x → x ≤ 6 → TWs w p (6 + 11 * tt + 10) s q L U → Calls Try.prog 14 #[.pointer (some ⟨p, 0, none⟩), .agg C] U fun e w' => ∃ v, e = .returned v ∧ TWs w p (6 + 11 * (tt + 1)) (SO.hear s ⟨0, 2, x, sq, x, []⟩).1 q L w') := fun s p q L U tt x sq C ht hC h1 h2 h => by
    subst hC
    exact (h.hear (by omega) x sq ⟨by omega, by omega⟩).mono fun e w' ⟨v, e1, e2⟩ => ⟨v, e1, e2.more (by omega)⟩
  have HAL : Hid (∀ p tt s U, LW w p (6 + 11 * tt) s (fun _ => True) U → SO.Calm me n s → Calls Try.prog 11 #[.pointer (some ⟨p, 0, none⟩)] U fun e w' => ∃ a c, e = .returned (.slice a n c) ∧ (∀ i : Nat, i < n → ∃ b off, a = some ⟨b, off, none⟩ ∧ w'.cell? ⟨b, off + i * 3 + 2, none⟩ = some (.int .i64 0)) ∧ Bl w w') := fun p tt s U h hc => (All_l h).mono fun e w' ⟨a, c, h1, h2, h3⟩ => by
    have hall : K.all s.f = (SO.upto n).map fun k => (k, 0, 0) := by rw [hc.f, SO.all_f0 hc.n6]
    rw [hall] at h1 h2
    refine ⟨a, c, by rw [h1]; simp [SO.upto], fun i hi => ?_, h3.bl⟩
    have hu : (SO.upto n)[i]? = some ((i : Int) + 1) := by simp [SO.upto, hi]
    obtain ⟨b, off, e1, e2, e3⟩ := h2 i ((i : Int) + 1, 0, 0) (by rw [List.getElem?_map, hu]; rfl)
    exact ⟨b, off, e1, e3 2 _ rfl⟩
  have HN : Hid (2 + (u : Int) = (n : Int)) := by show _ = _; omega
  have HM : Hid (1 + (v : Int) = me) := hme.symm
  have CN2 : Hid (∀ U, Bl w U → Calls Try.prog 12 #[.int .i64 (1 + (v : Int)), .int .i64 (2 + (u : Int))] U fun e w' => ∃ p, e = .returned (.pointer (some ⟨p, 0, none⟩)) ∧ LW w p 6 (SO.new me n) (fun _ => True) w') := by rw [HN.out, HM.out]; exact CN
  have hn6 : n ≤ 6 := by omega
  have hn2 : 2 ≤ n := by omega
  have hm1 : 1 ≤ me := by omega
  have hm6 : me ≤ n := by omega
  have T0 := hidI (tn_new (me := me) (n := n) (by omega) (by omega) (by omega) (by omega))
  obtain ⟨fs, hum⟩ := undSn
  have hvu : (v : Int) < 2 + (u : Int) := by omega
  clear hn hme CN hn0 hme0
  have hw0 : IntKind.u64.wrap (2 + (u : Int)) = 2 + (u : Int) := by simp only [IntKind.wrap, IntKind.bits, IntKind.signed]; simp; omega
  go_enter Try.func6, Try.ntmps6
  go_wp2_with (first
    | (go_at_call 8; refine (CA.out).mono ?_; clear CA; rintro e w1 ⟨rfl, h1⟩; have HB1 := hidI h1; clear h1)
    | (go_at_call 12; refine (CN2.out _ HB1.out).mono ?_; clear CN2 HB1; rintro e w2 ⟨p, rfl, h1⟩; have L0 := hidI h1; clear h1))
  rw [HN.out, HM.out]
  clear hx1 hy1 hdi hvu hw0 HN HM hx2 hy2
  have R0 : Hid (∃ (tn tt : Nat) (s : SO.Sc), tn = 0 ∧ tt ≤ 20 * tn ∧ Tn me n s tt 0 0 [] ∧ LW w p (6 + 11 * tt) s (fun _ => True) w2) := ⟨0, 0, _, rfl, by omega, T0.out, L0.out⟩
  clear T0 L0
  go_loopw [8, 9, 10, 11, 12, 13, 14, 15] (fun u8 u9 _ _ _ _ _ _ wr => ∃ (tn tt : Nat) (s : SO.Sc), tn ≤ 3 ∧ u9 = .int .i64 (tn : Int) ∧ u8 = .int .i64 (tt : Int) ∧ tt ≤ 20 * tn ∧ Tn me n s tt 0 0 [] ∧ LW w p (6 + 11 * tt) s (fun _ => True) wr) (fun _ u9 _ _ _ _ _ _ _ => 3 - (intOf u9).toNat)
  case atStart =>
    obtain ⟨tn, tt, s, rfl, h1, h2, h3⟩ := R0.out
    obtain rfl : tt = 0 := by omega
    exact ⟨0, 0, s, by omega, rfl, rfl, by omega, h2, h3⟩
  case round =>
    obtain ⟨tn, tt, s, htn, rfl, rfl, htt, hT, hL⟩ := hrel
    clear R0
    by_cases hlt : tn < 3
    · have HT := hidI hT
      have HL := hidI hL
      clear hT hL
      have htn3 : (tn : Int) < 3 := by omega
      go_wp2_with fail
      have R2 : Hid (TWs w p (6 + 11 * tt) s wr.heap.size (sb []) (wr.alloc (.cells #[.bool false, .bool false, .bool false, .bool false, .bool false, .bool false, .bool false] t7))) := TWs.new HL.out rfl
      generalize wr.heap.size = q at *
      clear HL
      go_loopw [8, 11, 12, 13, 14, 15] (fun u8 u11 _ _ _ _ wr => ∃ (k t2 : Nat) (s : SO.Sc) (seen : List Int), k + 1 ≤ n ∧ u8 = .int .i64 (t2 : Int) ∧ u11 = .int .i64 (k : Int) ∧ t2 ≤ 20 * tn + 4 * k ∧ Tn me n s t2 k 0 seen ∧ TWs w p (6 + 11 * t2) s q (sb seen) wr) (fun _ u11 _ _ _ _ _ => n - (intOf u11).toNat)
      case atStart => exact ⟨0, tt, s, [], by omega, rfl, rfl, by omega, HT.out, R2.out⟩
      case round =>
        obtain ⟨k, t2, s2, seen, hk, rfl, rfl, ht2, hT2, hW2⟩ := hrel
        clear HT R2
        by_cases hk2 : k + 1 < n
        · have HT2 := hidI hT2
          have HW2 := hidI hW2
          clear hT2 hW2
          have hkn : (k : Int) < (n : Int) - 1 := by omega
          go_wp2_with fail
          go_loopw [8, 12, 13, 14, 15] (fun u8 u12 _ _ _ wr => ∃ (i t3 : Nat) (s : SO.Sc) (seen : List Int), i ≤ 4 ∧ u8 = .int .i64 (t3 : Int) ∧ u12 = .int .i64 (i : Int) ∧ t3 ≤ 20 * tn + 4 * k + i ∧ Tn me n s t3 k i seen ∧ TWs w p (6 + 11 * t3) s q (sb seen) wr) (fun _ u12 _ _ _ _ => 4 - (intOf u12).toNat)
          case atStart => exact ⟨0, t2, s2, seen, by omega, rfl, rfl, by omega, HT2.out, HW2.out⟩
          case round =>
            obtain ⟨i, t3, s3, seen3, hi, rfl, rfl, ht3, hT3, hW3⟩ := hrel
            clear HT2 HW2
            by_cases hi4 : i < 4
            · by_cases hl0 : 0 < ds.length
              · have hj : t3 % ds.length < ds.length := Nat.mod_lt _ hl0
                obtain ⟨y, hy⟩ : ∃ y, ds[t3 % ds.length]? = some y := ⟨_, List.getElem?_eq_getElem hj⟩
                have hdr : drw ds t3 = y := by unfold drw; rw [if_pos hl0, List.getD_eq_getElem?_getD, hy]; rfl
                have hmod : Int.tmod (t3 : Int) (ds.length : Int) = ((t3 % ds.length : Nat) : Int) := by rw [Int.tmod_eq_emod_of_nonneg (by omega)]; omega
                have hmod2 : (t3 : Int) % (ds.length : Int) = ((t3 % ds.length : Nat) : Int) := by omega
                obtain ⟨b9, o9, rfl, hb9, ky⟩ := (hds.bl hW3.bl).at1 hy
                have hne0 : ((ds.length : Int) == 0) = false := beq_eq_false_iff_ne.2 (by omega)
                have hgt0 : (0 : Int) < (ds.length : Int) := by omega
                generalize t3 % ds.length = j9 at *
                clear hy hds
                by_cases hi0 : i = 0
                · subst hi0
                  have C := hidI (TT.out t3 k 0 s3 p q seen3 wr hT3 (by omega) hW3 hk2 rfl)
                  rw [hdr] at C
                  have HXB : Hid (¬ q = wr.heap.size) := fun e => by have := lt_heap hW3.row; omega
                  clear hT3 hW3 TT TR HAL hdr
                  go_wp2_with (first
                    | (go_at_call 13; refine (C.out).mono ?_; clear C; rintro e w4 ⟨b4, o4, c4, x, sq, L, rfl, hrg, hLl, hone, l0, l1, l3, ⟨x1, x2, x3, x4, x5⟩, s', hw', ht'⟩; have HRG := hidI hrg; have HON := hidI hone; have HL0 := hidI l0; have HL1 := hidI l1; have HL3 := hidI l3; have HX4 := hidI x4; have HX5 := hidI x5; have HW := hidI hw'; have HT' := hidI ht'; clear hrg hone l0 l1 l3 x4 x5 hw' ht'; have hiL : (Try.prog.info? tSn).map (·.size) = some L.length := (by rw [hLl]; exact infoSn); have hsz : L.toArray.size = 238 := (by simp [hLl]); have hx0 : 0 ≤ x := (by omega); have hx7 : x < 7 := (by omega); have hxt : x.toNat < 7 := (by omega); have hxm : (x == me) = false := beq_eq_false_iff_ne.2 x3)
                    | (refine wpList_load_mid rfl tSn _ rfl b4 o4 rfl L _ HRG.out hum rfl hiL ?_; clear HRG)
                    | (refine wpList_store_row rfl tSn _ _ rfl w4.heap.size L.toArray rfl rfl tSn zSn (heap_alloc_new w4 _) (by rw [hsz]; exact infoSn) (by rw [hsz, zSn_size]) HON.out ?_; rw [World.setRow_alloc_new]; clear HON; obtain ⟨V, hV⟩ : ∃ V, V = w4.alloc (.cells L.toArray tSn) := ⟨_, rfl⟩; rw [← hV]; obtain ⟨r0, HBV⟩ := new_V hV; clear hV; have kx0 := cellL r0 HL0.out; have kx1 := cellL r0 HL1.out; have kx3 := cellL r0 HL3.out; have HV := hidI (HW.out.grow HBV); have ks := cellL HV.out.row HX4.out; have R0 := hidI r0; have HQ : Hid (w4.heap.size ≠ q) := (fun e => by have := lt_heap HW.out.row; omega); clear r0 HBV HX4)
                    | (refine wl_setU rfl 4 _ _ rfl q x.toNat (.bool true) rfl rfl rfl info1f (sb seen3) (sb (seen3 ++ [x])) t7 HV.out.row (by rw [sb_len]; omega) HX5.out ?_; intro U1 R1 O1; have HU := hidI (HV.out.set O1 R1); have r1 := (O1.block _ (lt_heap R0.out) HQ.out).trans R0.out; clear kx0 kx1 kx3 ks R0 R1 O1; have kx0 := cellL r1 HL0.out; have kx3 := cellL r1 HL3.out; clear r1)
                    | (go_at_call 14; refine (TH.out _ _ _ _ _ t3 x sq _ (by omega) (by kernel_rfl) x1 x2 HU.out).mono ?_; clear HU TH kx0 kx3; rintro e w5 ⟨v5, rfl, h5⟩; have HW5 := hidI h5; clear h5))
                  go_roundw
                  case rel => exact ⟨1, t3 + 1, _, seen3 ++ [x], by omega, by go_num, by go_num, by omega, HT'.out, HW5.out⟩
                  case measure => simp [intOf]
                · have C := hidI (TR.out t3 k i s3 p q seen3 wr hT3 (by omega) hW3 (by omega) hi4)
                  rw [hdr] at C
                  have hi1 : ((i : Int) == 0) = false := beq_eq_false_iff_ne.2 (by omega)
                  have hi2 : (0 : Int) < (i : Int) := by omega
                  clear hT3 hW3 TT TR TH HAL hdr
                  go_wp2_with (go_at_call 13; refine (C.out).mono ?_; clear C; rintro e w4 ⟨a4, c4, rfl, s', hw', ht'⟩; have HW := hidI hw'; have HT' := hidI ht'; clear hw' ht')
                  go_roundw
                  case rel => exact ⟨i + 1, t3 + 1, s', seen3, by omega, by go_num, by go_num, by omega, HT'.out, HW.out⟩
                  case measure => simp [intOf]; omega
              · have hz0 : ¬ (0 : Int) < (ds.length : Int) := by omega
                have hdr : drw ds t3 = (t3 : Int) := by unfold drw; rw [if_neg hl0]
                clear hds
                by_cases hi0 : i = 0
                · subst hi0
                  have C := hidI (TT.out t3 k 0 s3 p q seen3 wr hT3 (by omega) hW3 hk2 rfl)
                  rw [hdr] at C
                  have HXB : Hid (¬ q = wr.heap.size) := fun e => by have := lt_heap hW3.row; omega
                  clear hT3 hW3 TT TR HAL hdr
                  go_wp2_with (first
                    | (go_at_call 13; refine (C.out).mono ?_; clear C; rintro e w4 ⟨b4, o4, c4, x, sq, L, rfl, hrg, hLl, hone, l0, l1, l3, ⟨x1, x2, x3, x4, x5⟩, s', hw', ht'⟩; have HRG := hidI hrg; have HON := hidI hone; have HL0 := hidI l0; have HL1 := hidI l1; have HL3 := hidI l3; have HX4 := hidI x4; have HX5 := hidI x5; have HW := hidI hw'; have HT' := hidI ht'; clear hrg hone l0 l1 l3 x4 x5 hw' ht'; have hiL : (Try.prog.info? tSn).map (·.size) = some L.length := (by rw [hLl]; exact infoSn); have hsz : L.toArray.size = 238 := (by simp [hLl]); have hx0 : 0 ≤ x := (by omega); have hx7 : x < 7 := (by omega); have hxt : x.toNat < 7 := (by omega); have hxm : (x == me) = false := beq_eq_false_iff_ne.2 x3)
                    | (refine wpList_load_mid rfl tSn _ rfl b4 o4 rfl L _ HRG.out hum rfl hiL ?_; clear HRG)
                    | (refine wpList_store_row rfl tSn _ _ rfl w4.heap.size L.toArray rfl rfl tSn zSn (heap_alloc_new w4 _) (by rw [hsz]; exact infoSn) (by rw [hsz, zSn_size]) HON.out ?_; rw [World.setRow_alloc_new]; clear HON; obtain ⟨V, hV⟩ : ∃ V, V = w4.alloc (.cells L.toArray tSn) := ⟨_, rfl⟩; rw [← hV]; obtain ⟨r0, HBV⟩ := new_V hV; clear hV; have kx0 := cellL r0 HL0.out; have kx1 := cellL r0 HL1.out; have kx3 := cellL r0 HL3.out; have HV := hidI (HW.out.grow HBV); have ks := cellL HV.out.row HX4.out; have R0 := hidI r0; have HQ : Hid (w4.heap.size ≠ q) := (fun e => by have := lt_heap HW.out.row; omega); clear r0 HBV HX4)
                    | (refine wl_setU rfl 4 _ _ rfl q x.toNat (.bool true) rfl rfl rfl info1f (sb seen3) (sb (seen3 ++ [x])) t7 HV.out.row (by rw [sb_len]; omega) HX5.out ?_; intro U1 R1 O1; have HU := hidI (HV.out.set O1 R1); have r1 := (O1.block _ (lt_heap R0.out) HQ.out).trans R0.out; clear kx0 kx1 kx3 ks R0 R1 O1; have kx0 := cellL r1 HL0.out; have kx3 := cellL r1 HL3.out; clear r1)
                    | (go_at_call 14; refine (TH.out _ _ _ _ _ t3 x sq _ (by omega) (by kernel_rfl) x1 x2 HU.out).mono ?_; clear HU TH kx0 kx3; rintro e w5 ⟨v5, rfl, h5⟩; have HW5 := hidI h5; clear h5))
                  go_roundw
                  case rel => exact ⟨1, t3 + 1, _, seen3 ++ [x], by omega, by go_num, by go_num, by omega, HT'.out, HW5.out⟩
                  case measure => simp [intOf]
                · have C := hidI (TR.out t3 k i s3 p q seen3 wr hT3 (by omega) hW3 (by omega) hi4)
                  rw [hdr] at C
                  have hi1 : ((i : Int) == 0) = false := beq_eq_false_iff_ne.2 (by omega)
                  have hi2 : (0 : Int) < (i : Int) := by omega
                  clear hT3 hW3 TT TR TH HAL hdr
                  go_wp2_with (go_at_call 13; refine (C.out).mono ?_; clear C; rintro e w4 ⟨a4, c4, rfl, s', hw', ht'⟩; have HW := hidI hw'; have HT' := hidI ht'; clear hw' ht')
                  go_roundw
                  case rel => exact ⟨i + 1, t3 + 1, s', seen3, by omega, by go_num, by go_num, by omega, HT'.out, HW.out⟩
                  case measure => simp [intOf]; omega
            · obtain rfl : i = 4 := by omega
              have HT3 := hidI hT3.next
              have HW3 := hidI hW3
              clear hT3 hW3
              go_wp2_with fail
              go_roundw
              case rel => exact ⟨k + 1, t3, s3, seen3, by omega, by go_num, by go_num, by omega, HT3.out, HW3.out⟩
              case measure => simp [intOf]; omega
        · have HT2 := hidI (hT2.turn (by omega))
          have HW2 := hidI hW2.lw
          clear hT2 hW2
          have hkn : ¬ (k : Int) < (n : Int) - 1 := by omega
          go_wp2_with fail
          go_roundw
          case rel => exact ⟨tn + 1, t2, s2, by omega, by go_num, by go_num, by omega, HT2.out, HW2.out⟩
          case measure => simp [intOf]; omega
    · obtain rfl : tn = 3 := by omega
      have CL := hidI (HAL.out p tt s wr hL hT.c)
      clear hT hL TT TR TH HAL
      go_wp2_with (go_at_call 11; refine (CL.out).mono ?_; clear CL; rintro e w3 ⟨a, c, rfl, h1, h2⟩; have HA := hidI h1; have HB := hidI h2; clear h1 h2)
      go_loopw [17] (fun u17 wr => ∃ k : Nat, k ≤ n ∧ u17 = .int .i64 (k : Int) ∧ wr = w3) (fun u17 _ => n - (intOf u17).toNat)
      case atStart => exact ⟨0, by omega, rfl, by first | rfl | trivial⟩
      case round =>
        obtain ⟨k, hk, rfl, hwr⟩ := hrel
        subst hwr
        by_cases hlt : k < n
        · obtain ⟨b8, o8, rfl, k8⟩ := HA.out k hlt
          clear HA
          go_wp2_with fail
          go_roundw
          case rel => exact ⟨k + 1, by omega, by go_num, by first | rfl | trivial⟩
          case measure => simp [intOf]; omega
        · obtain rfl : k = n := by omega
          go_wp2_with fail
          go_ret
          exact ⟨rfl, HB.out⟩
end Go.Proofs.Ytfpjknfgiciokaa
