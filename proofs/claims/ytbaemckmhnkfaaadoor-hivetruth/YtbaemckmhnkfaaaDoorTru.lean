/- HiveTruth: the walk. -/
import Derived.Test.YtbaemckmhnkfaaaDoorP5
import Derived.Deep.CutBlock
import Derived.Deep.DeepCutAuto
namespace Go.Proofs.YtbaemckmhnkfaaaDoor
open Go.RowKit Go.Maps
set_option linter.unusedVariables false
set_option linter.unusedSimpArgs false

def zA : Array Value := (avL ⟨0, [], V.zr, 0, [], none, 0⟩).toArray
theorem zeroA (W : World) : (zeroValue 38).run Tryd.prog W = .ok (.agg zA) W := by kernel_rfl
theorem undA : ∃ fs, Tryd.prog.underlying 38 = some (.struct fs) := ⟨_, Tryd.underlying38⟩
theorem infoA : (Tryd.prog.info? 38).map (·.size) = some 69 := by kernel_rfl
theorem zA_size : zA.size = 69 := by rw [zA, List.size_toArray]; exact avL_length zr32
theorem hstA (W : World) : (W.alloc (.cells zA 38)).heap[W.heap.size]? = some (.cells zA 38 (0, 0)) := heap_alloc_new _ _
theorem build27e (W : World) : (Instr.build 33 #[]).run Tryd.prog W = .ok (.agg zero32) W := by kernel_rfl
theorem build35e (W : World) : (Instr.build 35 #[]).run Tryd.prog W = .ok (.agg (rv V.zr)) W := by kernel_rfl
attribute [local go_sem ↓] zeroDg
attribute [local go_sem ↓] zero35
attribute [local go_sem ↓] zeroA
attribute [local go_sem ↓] build27e
attribute [local go_sem ↓] build35e

theorem truR {r2 : V.Rc} {q2 : Bool} {k : List UInt8} (hr2 : Rc32 r2) (g1 : q2 = true → r2.key = k) (g0 : q2 = false → r2 = V.zr) : ∀ W3 : World, (q2 = false → (W3.alloc (.cells (rv r2) 35)).rangeAt W3.heap.size 0 (rvL V.zr)) ∧ (q2 = true → (W3.alloc (.cells (rv r2) 35)).rangeAt W3.heap.size 0 (k.map vb)) := fun W3 =>
  ⟨fun h => by
    have e := g0 h
    subst e
    exact range_part (C := rv V.zr) (T := 35) (heap_alloc_new _ _) [] (rvL V.zr) [] 0 (by simp [rv]) rfl, fun h => by
    rw [← g1 h]
    exact (rv_parts hr2 (heap_alloc_new _ _)).1.1⟩
set_option maxRecDepth 8000 in
set_option maxHeartbeats 8000000 in
theorem hiveTruth_core (x : Int) (hx : -9223372036854775808 ≤ x ∧ x ≤ 9223372036854775807) (acts : List A5) (a : Option Addr) (c : Nat) (w : World) (hG : GW w) (T : AC5 w a acts) (hn : acts.length ≤ 9223372036854775807) :
    Calls Tryd.prog 3 #[.int .i64 x, .slice a acts.length c] w fun e w' => e = .returned (.bool true) ∧ Below w.heap.size w w' := by
  have hz := hG.z
  have hu := um_lt x 20 (by omega)
  have hw20 : Int.tmod (IntKind.u64.wrap x) 20 = (um x 20 : Int) := um_wrap x 20
  obtain ⟨N, hN⟩ : ∃ N, N = 1 + um x 20 := ⟨_, rfl⟩
  have hN2 : N ≤ 20 := by omega
  have e1 : IntKind.i64.wrap ((um x 20 : Nat) : Int) = ((um x 20 : Nat) : Int) := wrap_i64_ofH (by omega) (by omega)
  have e2 : IntKind.i64.wrap (1 + ((um x 20 : Nat) : Int)) = (N : Int) := by rw [wrap_i64_ofH (by omega) (by omega), hN]; omega
  have e3 : 1 + ((um x 20 : Nat) : Int) = (N : Int) := by rw [hN]; omega
  clear hN
  have HG : GB w w := GB.refl hG
  have CA : Hid (∀ W, GB w W → Calls Tryd.prog 5 #[] W fun e w' => e = .returned (.bool true) ∧ GB w w') := fun W h => awake_h h
  have CG : Hid (∀ W, GB w W → Calls Tryd.prog 6 #[.slice a acts.length c] W fun e w' => G5 acts W e w') := fun W h => great5 acts a c T h.b hn
  have CN : Hid (∀ W, GB w W → Calls Tryd.prog 7 #[.int .i64 (N : Int)] W fun e w' => ∃ b c, e = .returned (.pointer (some ⟨b, 0, none⟩)) ∧ TZ w N 0 b c false [] w') := fun W h => by
    refine (New_u N (by omega) h.b).mono ?_
    rintro e w' ⟨b, c, rfl, h1, h2, h3⟩
    exact ⟨b, c, rfl, TZ.new h3 h1 h2 (by omega)⟩
  have CO : Hid (∀ {b c : Nat} W, TZ w N 0 b c false [] W → Calls Tryd.prog 8 #[.pointer (some ⟨b, 0, none⟩)] W fun e w' => ∃ K, e = .returned (.tuple #[.pointer (some ⟨K, 0, none⟩), .int .i64 0]) ∧ TY w N (0 + 200) K b c [] w') := fun W h => h.opens (by omega) hG
  have HT : Hid (AC5 w a acts) := T
  clear T hu
  go_enter Tryd.func3, Tryd.ntmps3
  go_wp2_with (first
    | (go_at_call 5; refine (CA.out _ HG).mono ?_; clear CA HG; rintro e w1 ⟨rfl, HG⟩)
    | (go_at_call 6; refine (CG.out _ HG).mono ?_; clear CG; rintro e w2 ⟨q, rfl, hq, hw⟩; rw [hw]; clear hw w2; cases q))
  · have HQ : Hid (∀ (i : Nat) (x : A5), i < 70 → acts[i]? = some x → x.text.length ≤ 1000 ∧ x.fates.length ≤ 200) := by first | exact hq rfl | exact hq trivial
    clear hq
    go_wp2_with (first
      | (go_at_call 7; refine (CN.out _ HG).mono ?_; clear CN HG; rintro e w3 ⟨sh, sc, rfl, LX⟩)
      | (go_at_call 8; refine (CO.out _ LX).mono ?_; clear CO LX; rintro e w4 ⟨K0, rfl, LX⟩))
    have LX0 : Hid (TY w N (300 * 0 + 300) K0 sh sc [] w4) := LX.wider (by omega)
    clear LX e1 e2 e3 hw20 hx
    go_loopw [6, 7, 8, 9, 10, 11, 12, 13, 14] (fun u6 u7 u8 u9 u10 u11 u12 u13 u14 wr => ∃ (i K : Nat), i ≤ acts.length ∧ i ≤ 70 ∧ u6 = .pointer (some ⟨K, 0, none⟩) ∧ u8 = .int .i64 (i : Int) ∧ TY w N (300 * i + 300) K sh sc [] wr) (fun _ _ u8 _ _ _ _ _ _ _ => 70 - (intOf u8).toNat)
    case atStart => exact ⟨0, K0, Nat.zero_le _, Nat.zero_le _, rfl, rfl, LX0.out⟩
    case round =>
      obtain ⟨i, K, hi, h7, rfl, rfl, LX⟩ := hrel
      clear LX0
      by_cases hlt : i < acts.length ∧ i < 70
      · obtain ⟨hlt1, h70⟩ := hlt
        obtain ⟨x, hxi⟩ : ∃ x, acts[i]? = some x := ⟨acts[i], List.getElem?_eq_getElem hlt1⟩
        obtain ⟨hx1, hx2⟩ := HQ.out i x h70 hxi
        obtain ⟨sb, off, ha, hr, _, _, ok⟩ := HT.out.at LX.o hxi
        cases ha
        have HRX : Hid (wr.rangeAt sb (off + i * 69) (avL x)) := hr
        have okr := ok.r
        have okf := ok.f
        have okl := ok.fl
        have okb := ok.fb
        have i0 : (0 : Int) ≤ (i : Int) := by omega
        have i1 : (i : Int) < (acts.length : Int) := by omega
        have i2 : (i : Int) < 70 := by omega
        obtain ⟨fsA, humA⟩ := undA
        obtain ⟨fs35, hum35⟩ := und35
        have hiA : (Tryd.prog.info? 38).map (·.size) = some (avL x).length := by rw [avL_length ok.r]; exact infoA
        have hAs : (avL x).toArray.size = 69 := by rw [List.size_toArray]; exact avL_length ok.r
        have hzA := zA_size
        have hA1 : (avL x).toArray.all (·.oneCell') = true := all_oneCell_toArray (avL_one x)
        have hiR : (Tryd.prog.info? 35).map (·.size) = some (rvL x.r).length := by rw [rvL_length ok.r]; exact info35
        have hiK : (Tryd.prog.info? 33).map (·.size) = some (x.r.key.map vb).length := by rw [List.length_map, ok.r.k]; exact info27
        have HSTA : Hid (∀ W : World, (W.alloc (.cells zA 38)).heap[W.heap.size]? = some (.cells zA 38 (0, 0))) := hstA
        have HAV : Hid (∀ (W : World) (q : Nat), W.heap[q]? = some (.cells (avL x).toArray 38 (0, 0)) → W.cell? ⟨q, 0, none⟩ = some (.int .i64 x.kind) ∧ W.cell? ⟨q, 1, none⟩ = some (.string (M.bs x.text)) ∧ W.cell? ⟨q, 67, none⟩ = some (.int .i64 x.at') ∧ W.cell? ⟨q, 68, none⟩ = some (.slice x.fa x.fates.length x.fc) ∧ W.rangeAt q 2 (rvL x.r) ∧ W.rangeAt q 2 (x.r.key.map vb)) := fun W q h => av_parts okr h
        have HST : Hid (∀ W : World, (W.alloc (.cells zero32 33)).heap[W.heap.size]? = some (.cells zero32 33 (0, 0))) := hst32
        have hz3 := zero32_size
        have hEQK : ∀ W', (Op.equalIn 10000 33 (.agg (x.r.key.map vb).toArray) (.agg (x.r.key.map vb).toArray)).run Tryd.prog W' = .ok true W' := fun W' => by
          have := eqDg x.r.key x.r.key ok.r.k ok.r.k W'
          rw [decide_eq_true rfl] at this
          exact this
        have CR : Hid (∀ {m K : Nat} {rs : List (Nat × Array Value × TypeId)} W', m ≤ 900000 → TY w N m K sh sc rs W' → Calls Tryd.prog 16 #[.pointer (some ⟨K, 0, none⟩), .agg (x.r.key.map vb).toArray] W' fun e' w' => (∃ (r2 : V.Rc) (q : Bool), e' = .returned (.tuple #[.agg (rv r2), .bool q]) ∧ Rc32 r2 ∧ (q = true → r2.key = x.r.key) ∧ (q = false → r2 = V.zr)) ∧ TY w N (m + 5) K sh sc rs w') := fun W' hm l => l.rec' hm x.r.key okr.k
        have CF : Hid (∀ {m K : Nat} {rs : List (Nat × Array Value × TypeId)} W' T, TY w N m K sh sc rs W' → Calls Tryd.prog 14 #[.slice (some ⟨W'.heap.size, 0, none⟩) 1 1] (W'.alloc (.cells #[.string (M.bs x.text)] T)) fun e' w' => e' = .returned (.agg (dg (S.sha x.text))) ∧ TY w N m K sh sc rs w') := fun W' T l => l.of x.text T (by omega)
        have hlD := S.sha_length x.text
        clear hr hxi ok
        generalize S.sha x.text = D at *
        have hDs : (dg D).size = 32 := by rw [dg_size, hlD]
        have hD1 := dg_one D
        have hiD : (Tryd.prog.info? 33).map (·.size) = some (D.map vb).length := by rw [List.length_map, hlD]; exact info27
        have CB : Hid (∀ {m K : Nat} {rs : List (Nat × Array Value × TypeId)} W', m ≤ 900000 → TY w N m K sh sc rs W' → Calls Tryd.prog 15 #[.pointer (some ⟨K, 0, none⟩), .agg (dg D)] W' fun e' w' => (∃ (t : List UInt8) (q : Bool), e' = .returned (.tuple #[.string (M.bs t), .bool q]) ∧ t.length ≤ 512 ∧ (q = true → S.sha t = D) ∧ (q = false → t = [])) ∧ TY w N (m + 5) K sh sc rs w') := fun W' hm l => l.blob hm D hlD
        go_upto_block 2 with (first
          | (refine wl_mid (by kernel_rfl) 38 _ rfl sb (off + i * 69) rfl (avL x) _ HRX.out humA rfl hiA ?_; clear HRX)
          | (refine wpList_store_row rfl 38 _ _ rfl wr.heap.size (avL x).toArray rfl rfl 38 zA (HSTA.out wr) (by rw [hAs]; exact infoA) (by rw [hzA, hAs]) hA1 ?_; clear HSTA; rw [World.setRow_alloc_new]; replace LX := LX.row (avL x).toArray 38; generalize wr.alloc (.cells (avL x).toArray 38) = w0 at LX ⊢; generalize wr.heap.size = Q at LX ⊢; obtain ⟨k0, k1, k67, k68, kR, kK⟩ := HAV.out _ Q (LX.at (by simp))))
        go_cut [6, 7, 52] (fun s6 s7 s52 wx => ∃ K', s6 = .pointer (some ⟨K', 0, none⟩) ∧ TY w N (300 * i + 300 + 210) K' sh sc [(Q, (avL x).toArray, 38)] wx)
        case first =>
          by_cases h1 : x.kind = 1
          · have CX : Hid (∀ {rs : List (Nat × Array Value × TypeId)} W', TY w N (300 * i + 300) K sh sc rs W' → Calls Tryd.prog 9 #[.pointer (some ⟨K, 0, none⟩), .string (M.bs x.text)] W' fun e' w' => (∃ (d : List UInt8) (er : Int), d.length = 32 ∧ e' = .returned (.tuple #[.agg (dg d), .int .i64 er])) ∧ TY w N (300 * i + 300 + 5) K sh sc rs w') := fun W' l => l.putBlob (by omega) x.text (by omega)
            clear okr okf okl okb hG CB CF CR
            go_wp2_with (go_at_call 9; refine (CX.out _ LX).mono ?_; clear CX LX; clear k0 k1 k67 k68 kR kK; rintro e w3 ⟨⟨d0, er, hd0, rfl⟩, LX⟩)
            go_meet
            exact ⟨_, rfl, LX.wider (by omega)⟩
          by_cases h2 : x.kind = 2
          · have CX : Hid (∀ {rs : List (Nat × Array Value × TypeId)} W', TY w N (300 * i + 300) K sh sc rs W' → Calls Tryd.prog 10 #[.pointer (some ⟨K, 0, none⟩), .agg (rvL x.r).toArray] W' fun e' w' => (∃ er : Int, e' = .returned (.int .i64 er)) ∧ TY w N (300 * i + 300 + 5) K sh sc rs w') := fun W' l => l.putRec (by omega) x.r okr
            clear okr okf okl okb hG CB CF CR
            go_wp2_with (first
              | (refine wl_mid (by kernel_rfl) 35 _ rfl Q 2 rfl (rvL x.r) _ kR hum35 rfl hiR ?_)
              | (go_at_call 10; refine (CX.out _ LX).mono ?_; clear CX LX; clear k0 k1 k67 k68 kR kK; rintro e w3 ⟨⟨er, rfl⟩, LX⟩))
            go_meet
            exact ⟨_, rfl, LX.wider (by omega)⟩
          by_cases h8 : x.kind = 8
          · have CX : Hid (∀ {rs : List (Nat × Array Value × TypeId)} W', TY w N (300 * i + 300) K sh sc rs W' → Calls Tryd.prog 11 #[.pointer (some ⟨sh, 0, none⟩)] W' fun e' w' => e' = .returned (.tuple #[]) ∧ TZ w N (300 * i + 300 + 1) sh sc true rs w') := fun W' l => l.off (by omega)
            have CY : Hid (∀ {rs : List (Nat × Array Value × TypeId)} W', TZ w N (300 * i + 300 + 1) sh sc true rs W' → Calls Tryd.prog 12 #[.pointer (some ⟨sh, 0, none⟩), .slice x.fa x.fates.length x.fc] W' fun e' w' => e' = .returned (.tuple #[]) ∧ TZ w N (300 * i + 300 + 1) sh sc false rs w') := fun W' l => l.on (by omega) x.fates x.fa x.fc okf okl okb
            have CZ : Hid (∀ {rs : List (Nat × Array Value × TypeId)} W', TZ w N (300 * i + 300 + 1) sh sc false rs W' → Calls Tryd.prog 8 #[.pointer (some ⟨sh, 0, none⟩)] W' fun e' w' => ∃ K, e' = .returned (.tuple #[.pointer (some ⟨K, 0, none⟩), .int .i64 0]) ∧ TY w N (300 * i + 300 + 1 + 200) K sh sc rs w') := fun W' l => l.opens (by omega) hG
            clear okr okf okl okb hG CB CF CR
            go_wp2_with (first
              | (go_at_call 11; refine (CX.out _ LX).mono ?_; clear CX LX; clear k0 k1 k67 k68 kR kK; rintro e w3 ⟨rfl, LX⟩; obtain ⟨k0, k1, k67, k68, kR, kK⟩ := HAV.out _ Q (LX.at (by simp)))
              | (go_at_call 12; refine (CY.out _ LX).mono ?_; clear CY LX; clear k0 k1 k67 k68 kR kK; rintro e w4 ⟨rfl, LX⟩)
              | (go_at_call 8; refine (CZ.out _ LX).mono ?_; clear CZ LX; rintro e w5 ⟨K2, rfl, LX⟩))
            go_meet
            exact ⟨_, rfl, LX.wider (by omega)⟩
          by_cases h10 : x.kind = 10
          · have CX : Hid (∀ {rs : List (Nat × Array Value × TypeId)} W', TY w N (300 * i + 300) K sh sc rs W' → Calls Tryd.prog 13 #[.pointer (some ⟨sh, 0, none⟩), .int .i64 x.at', .string (M.bs x.text)] W' fun e' w' => (∃ er : Int, e' = .returned (.int .i64 er)) ∧ TY w N (300 * i + 300 + 5) K sh sc rs w') := fun W' l => l.write (by omega) x.at' x.text (by unfold maxLen; omega)
            clear okr okf okl okb hG CB CF CR
            go_wp2_with (go_at_call 13; refine (CX.out _ LX).mono ?_; clear CX LX; clear k0 k1 k67 k68 kR kK; rintro e w3 ⟨⟨er, rfl⟩, LX⟩)
            go_meet
            exact ⟨_, rfl, LX.wider (by omega)⟩
          · clear okr okf okl okb hG CB CF CR
            go_wp2_with fail
            go_meet
            exact ⟨_, rfl, LX.wider (by omega)⟩
        case rest =>
          obtain ⟨K2, rfl, LX⟩ := hcut
          clear k0 k1 k67 k68 kR kK okr okf okl okb
          obtain ⟨k0, k1, k67, k68, kR, kK⟩ := HAV.out _ Q (LX.at (by simp))
          clear k0 k67 k68 kR kK
          go_upto_region 28 with (first
            | (go_at_call 14; refine (CF.out _ _ LX).mono ?_; clear CF LX k1; rintro e w6 ⟨rfl, LX⟩)
            | (refine wpList_store_row rfl 33 _ _ rfl w6.heap.size (dg D) rfl rfl 33 zero32 (HST.out w6) (by rw [hDs]; exact info27) (by rw [hz3, hDs]) hD1 ?_; clear HST; rw [World.setRow_alloc_new]; replace LX := LX.row (dg D) 33)
            | (refine wpList_load_row rfl 33 _ rfl w6.heap.size rfl 33 (dg D) (0, 0) _ (LX.at (by simp)) und27 rfl (by rw [hDs]; exact info27) ?_)
            | (go_at_call 15; refine (CB.out _ (by omega) LX).mono ?_; clear CB LX; rintro e w7 ⟨⟨t, q, rfl, ht5, hq1, hq0⟩, LX⟩))
          have HDR : Hid (∀ {m K : Nat} {W' : World}, TY w N m K sh sc [(w6.heap.size, dg D, 33), (Q, (avL x).toArray, 38)] W' → W'.rangeAt w6.heap.size 0 (D.map vb)) := fun l => range_part (C := dg D) (T := 33) (l.at (by simp)) [] (D.map vb) [] 0 (by simp [dg]) rfl
          go_cut [11, 12, 113] (fun s11 s12 s wx => s = .bool false ∧ TY w N (300 * i + 300 + 210 + 5) K2 sh sc [(w6.heap.size, dg D, 33), (Q, (avL x).toArray, 38)] wx)
          case first =>
            cases q
            · obtain rfl := (by first | exact hq0 rfl | exact hq0 trivial : t = [])
              clear hq1 hq0 ht5
              refine wp_region_noPanic ?_
              refine wp_region_held_drew (S := (fun W' => W'.rangeAt w6.heap.size 0 (D.map vb))) (by kernel_rfl) (HDR.out (LX.drew)) (fun hHeld => ?_)
              refine wpAnyH_take (i := 0) rfl (by kernel_rfl) (by kernel_rfl) (by kernel_rfl) (fun _ _ _ h => h) (yi_move (by kernel_rfl) rfl rfl) (by assumption) ?_
              simp only [Act.put, List.getElem_toArray, List.getElem_cons_succ, List.getElem_cons_zero, List.setIfInBounds_toArray, List.set_cons_zero, List.set_cons_succ]
              refine wpAnyH_take (i := 1) rfl (by kernel_rfl) (by kernel_rfl) (by kernel_rfl) (fun _ _ _ h => h) (yi_move (by kernel_rfl) rfl rfl) (by assumption) ?_
              simp only [Act.put, List.getElem_toArray, List.getElem_cons_succ, List.getElem_cons_zero, List.setIfInBounds_toArray, List.set_cons_zero, List.set_cons_succ]
              refine wpAnyH_take (i := 2) (v := undef) rfl (by kernel_rfl) (by kernel_rfl) (by kernel_rfl) (fun _ _ _ h => h) (Or.inr ⟨by kernel_rfl, rfl⟩) (by assumption) ?_
              simp only [Act.put, List.getElem_toArray, List.getElem_cons_succ, List.getElem_cons_zero, List.setIfInBounds_toArray, List.set_cons_zero, List.set_cons_succ]
              refine wpAnyH_take (i := 3) (v := undef) rfl (by kernel_rfl) (by kernel_rfl) (by kernel_rfl) (fun _ _ _ h => h) (Or.inr ⟨by kernel_rfl, rfl⟩) (by assumption) ?_
              simp only [Act.put, List.getElem_toArray, List.getElem_cons_succ, List.getElem_cons_zero, List.setIfInBounds_toArray, List.set_cons_zero, List.set_cons_succ]
              refine wpAnyH_take (i := 4) (v := undef) rfl (by kernel_rfl) (by kernel_rfl) (by kernel_rfl) (fun _ _ _ h => h) (Or.inr ⟨by kernel_rfl, rfl⟩) (by assumption) ?_
              simp only [Act.put, List.getElem_toArray, List.getElem_cons_succ, List.getElem_cons_zero, List.setIfInBounds_toArray, List.set_cons_zero, List.set_cons_succ]
              refine wpAnyH_take (i := 5) (v := undef) rfl (by kernel_rfl) (by kernel_rfl) (by kernel_rfl) (fun _ _ _ h => h) (Or.inr ⟨by kernel_rfl, rfl⟩) (by assumption) ?_
              simp only [Act.put, List.getElem_toArray, List.getElem_cons_succ, List.getElem_cons_zero, List.setIfInBounds_toArray, List.set_cons_zero, List.set_cons_succ]
              refine wpAnyH_take (i := 6) (v := undef) rfl (by kernel_rfl) (by kernel_rfl) (by kernel_rfl) (fun _ _ _ h => h) (Or.inr ⟨by kernel_rfl, rfl⟩) (by assumption) ?_
              simp only [Act.put, List.getElem_toArray, List.getElem_cons_succ, List.getElem_cons_zero, List.setIfInBounds_toArray, List.set_cons_zero, List.set_cons_succ]
              refine wpAnyH_take (i := 7) (v := ?_) rfl (by kernel_rfl) (by kernel_rfl) (by kernel_rfl) (fun _ _ _ h => h) (Or.inl ⟨by kernel_rfl, ?_⟩) (by assumption) ?_
              rotate_left
              · (intro w hSw; (try dsimp only at hSw); go_simp; (try with_reducible rfl))
              simp only [Act.put, List.getElem_toArray, List.getElem_cons_succ, List.getElem_cons_zero, List.setIfInBounds_toArray, List.set_cons_zero, List.set_cons_succ]
              refine wpAnyH_take (i := 8) rfl (by kernel_rfl) (by kernel_rfl) (by kernel_rfl) (fun _ _ _ h => h) (yi_move (by kernel_rfl) rfl rfl) (by assumption) ?_
              simp only [Act.put, List.getElem_toArray, List.getElem_cons_succ, List.getElem_cons_zero, List.setIfInBounds_toArray, List.set_cons_zero, List.set_cons_succ]
              refine wpAnyH_take (i := 9) rfl (by kernel_rfl) (by kernel_rfl) (by kernel_rfl) (fun _ _ _ h => h) (yi_move (by kernel_rfl) rfl rfl) (by assumption) ?_
              simp only [Act.put, List.getElem_toArray, List.getElem_cons_succ, List.getElem_cons_zero, List.setIfInBounds_toArray, List.set_cons_zero, List.set_cons_succ]
              refine wpAnyH_take (i := 10) (v := ?_) rfl (by kernel_rfl) (by kernel_rfl) (by kernel_rfl) (fun _ _ _ h => h) (Or.inl ⟨by kernel_rfl, ?_⟩) (by assumption) ?_
              rotate_left
              · (intro w hSw; (try dsimp only at hSw); go_simp; (try with_reducible rfl))
              simp only [Act.put, List.getElem_toArray, List.getElem_cons_succ, List.getElem_cons_zero, List.setIfInBounds_toArray, List.set_cons_zero, List.set_cons_succ]
              refine wpAnyH_take (i := 11) rfl (by kernel_rfl) (by kernel_rfl) (by kernel_rfl) (fun _ _ _ h => h) (yi_move (by kernel_rfl) rfl rfl) (by assumption) ?_
              simp only [Act.put, List.getElem_toArray, List.getElem_cons_succ, List.getElem_cons_zero, List.setIfInBounds_toArray, List.set_cons_zero, List.set_cons_succ]
              refine wpAnyH_take (i := 12) rfl (by kernel_rfl) (by kernel_rfl) (by kernel_rfl) (fun _ _ _ h => h) (yi_move (by kernel_rfl) rfl rfl) (by assumption) ?_
              simp only [Act.put, List.getElem_toArray, List.getElem_cons_succ, List.getElem_cons_zero, List.setIfInBounds_toArray, List.set_cons_zero, List.set_cons_succ]
              refine wpAnyH_take (i := 13) (v := ?_) rfl (by kernel_rfl) (by kernel_rfl) (by kernel_rfl) (fun _ _ _ h => h) (Or.inl ⟨by kernel_rfl, ?_⟩) (by assumption) ?_
              rotate_left
              · (intro w hSw; have hbe : M.bs [] = ⟨#[]⟩ := rfl; go_simp; (try with_reducible rfl))
              simp only [Act.put, List.getElem_toArray, List.getElem_cons_succ, List.getElem_cons_zero, List.setIfInBounds_toArray, List.set_cons_zero, List.set_cons_succ]
              refine wpAnyH_take (i := 14) (v := ?_) rfl (by kernel_rfl) (by kernel_rfl) (by kernel_rfl) (fun _ _ _ h => h) (Or.inl ⟨by kernel_rfl, ?_⟩) (by assumption) ?_
              rotate_left
              · (intro w hSw; (try dsimp only at hSw); go_simp; (try with_reducible rfl))
              simp only [Act.put, List.getElem_toArray, List.getElem_cons_succ, List.getElem_cons_zero, List.setIfInBounds_toArray, List.set_cons_zero, List.set_cons_succ]
              refine wpAnyH_take (i := 15) (v := ?_) rfl (by kernel_rfl) (by kernel_rfl) (by kernel_rfl) (fun _ _ _ h => h) (Or.inl ⟨by kernel_rfl, ?_⟩) (by assumption) ?_
              rotate_left
              · (intro w hSw; (try dsimp only at hSw); go_simp; (try with_reducible rfl))
              simp only [Act.put, List.getElem_toArray, List.getElem_cons_succ, List.getElem_cons_zero, List.setIfInBounds_toArray, List.set_cons_zero, List.set_cons_succ]
              refine wpAnyH_done (by kernel_rfl) ?_ _
              refine NoPanic.normal ?_
              clear hHeld
              replace LX := LX.drew
              go_wp2_with fail
              go_meet
              exact ⟨rfl, LX⟩
            · have CF2 : Hid (∀ {m K : Nat} {rs : List (Nat × Array Value × TypeId)} W' T, TY w N m K sh sc rs W' → Calls Tryd.prog 14 #[.slice (some ⟨W'.heap.size, 0, none⟩) 1 1] (W'.alloc (.cells #[.string (M.bs t)] T)) fun e' w' => e' = .returned (.agg (dg D)) ∧ TY w N m K sh sc rs w') := fun W' T l => by
                have hh := l.of t T (by omega)
                rw [(by first | exact hq1 rfl | exact hq1 trivial : S.sha t = D)] at hh
                exact hh
              have HEQ : Hid (∀ W', (Op.equalIn 10000 33 (.agg (dg D)) (.agg (D.map vb).toArray)).run Tryd.prog W' = .ok true W') := fun W' => by
                have := eqDg D D hlD hlD W'
                rw [decide_eq_true rfl] at this
                exact this
              clear hq1 hq0 ht5
              refine wp_region_noPanic ?_
              refine wp_region_held_drew (S := (fun W' => W'.rangeAt w6.heap.size 0 (D.map vb))) (by kernel_rfl) (HDR.out (LX.drew)) (fun hHeld => ?_)
              refine wpAnyH_take (i := 0) rfl (by kernel_rfl) (by kernel_rfl) (by kernel_rfl) (fun _ _ _ h => h) (yi_move (by kernel_rfl) rfl rfl) (by assumption) ?_
              simp only [Act.put, List.getElem_toArray, List.getElem_cons_succ, List.getElem_cons_zero, List.setIfInBounds_toArray, List.set_cons_zero, List.set_cons_succ]
              refine wpAnyH_take (i := 1) rfl (by kernel_rfl) (by kernel_rfl) (by kernel_rfl) (fun _ _ _ h => h) (yi_move (by kernel_rfl) rfl rfl) (by assumption) ?_
              simp only [Act.put, List.getElem_toArray, List.getElem_cons_succ, List.getElem_cons_zero, List.setIfInBounds_toArray, List.set_cons_zero, List.set_cons_succ]
              refine wpAnyH_take (i := 2) rfl (by kernel_rfl) (by kernel_rfl) (by kernel_rfl) (fun _ _ _ h => h) (yi_move (by kernel_rfl) rfl rfl) (by assumption) ?_
              simp only [Act.put, List.getElem_toArray, List.getElem_cons_succ, List.getElem_cons_zero, List.setIfInBounds_toArray, List.set_cons_zero, List.set_cons_succ]
              refine wpAnyH_take (i := 5) (v := .agg (List.toArray (D.map vb))) rfl (by kernel_rfl) (by kernel_rfl) (by kernel_rfl) (fun _ _ _ h => h) (yieldsIf_load_mid (by kernel_rfl) _ (.tmp 10) (by kernel_rfl) w6.heap.size 0 (by kernel_rfl) (D.map vb) _ (fun W hW => hW) und27 rfl hiD) (by assumption) ?_
              simp only [Act.put, List.getElem_toArray, List.getElem_cons_succ, List.getElem_cons_zero, List.setIfInBounds_toArray, List.set_cons_zero, List.set_cons_succ]
              refine wpAnyH_ready (rs := [3]) (by kernel_rfl) (by simp) ?_
              refine AllReadyH.cons (o := _) rfl (fun K hK => ?_) AllReadyH.nil
              go_simp
              refine hK.out _ _ (HDR.out ((LX.drew).alloc _)) (fun hHeld => ?_)
              clear hK K
              (try simp only [Act.put, List.getElem_toArray, List.getElem_cons_succ, List.getElem_cons_zero, List.setIfInBounds_toArray, List.set_cons_zero, List.set_cons_succ])
              refine wpAnyH_ready (rs := [4]) (by kernel_rfl) (by simp) ?_
              refine AllReadyH.cons (o := _) rfl (fun K hK => ?_) AllReadyH.nil
              go_simp
              refine (CF2.out _ _ LX.drew).mono ?_; rintro e' w8 ⟨rfl, HB6⟩
              refine hK.out _ _ (HDR.out (HB6)) (fun hHeld => ?_)
              clear hK K
              (try simp only [Act.put, List.getElem_toArray, List.getElem_cons_succ, List.getElem_cons_zero, List.setIfInBounds_toArray, List.set_cons_zero, List.set_cons_succ])
              refine wpAnyH_take (i := 6) (v := ?_) rfl (by kernel_rfl) (by kernel_rfl) (by kernel_rfl) (fun _ _ _ h => h) (Or.inl ⟨by kernel_rfl, ?_⟩) (by assumption) ?_
              rotate_left
              · (intro w hSw; have heq := HEQ.out w; go_simp; (try with_reducible rfl))
              simp only [Act.put, List.getElem_toArray, List.getElem_cons_succ, List.getElem_cons_zero, List.setIfInBounds_toArray, List.set_cons_zero, List.set_cons_succ]
              refine wpAnyH_take (i := 7) (v := ?_) rfl (by kernel_rfl) (by kernel_rfl) (by kernel_rfl) (fun _ _ _ h => h) (Or.inl ⟨by kernel_rfl, ?_⟩) (by assumption) ?_
              rotate_left
              · (intro w hSw; (try dsimp only at hSw); go_simp; (try with_reducible rfl))
              simp only [Act.put, List.getElem_toArray, List.getElem_cons_succ, List.getElem_cons_zero, List.setIfInBounds_toArray, List.set_cons_zero, List.set_cons_succ]
              refine wpAnyH_take (i := 8) rfl (by kernel_rfl) (by kernel_rfl) (by kernel_rfl) (fun _ _ _ h => h) (yi_move (by kernel_rfl) rfl rfl) (by assumption) ?_
              simp only [Act.put, List.getElem_toArray, List.getElem_cons_succ, List.getElem_cons_zero, List.setIfInBounds_toArray, List.set_cons_zero, List.set_cons_succ]
              refine wpAnyH_take (i := 9) rfl (by kernel_rfl) (by kernel_rfl) (by kernel_rfl) (fun _ _ _ h => h) (yi_move (by kernel_rfl) rfl rfl) (by assumption) ?_
              simp only [Act.put, List.getElem_toArray, List.getElem_cons_succ, List.getElem_cons_zero, List.setIfInBounds_toArray, List.set_cons_zero, List.set_cons_succ]
              refine wpAnyH_take (i := 10) (v := ?_) rfl (by kernel_rfl) (by kernel_rfl) (by kernel_rfl) (fun _ _ _ h => h) (Or.inl ⟨by kernel_rfl, ?_⟩) (by assumption) ?_
              rotate_left
              · (intro w hSw; (try dsimp only at hSw); go_simp; (try with_reducible rfl))
              simp only [Act.put, List.getElem_toArray, List.getElem_cons_succ, List.getElem_cons_zero, List.setIfInBounds_toArray, List.set_cons_zero, List.set_cons_succ]
              refine wpAnyH_take (i := 11) rfl (by kernel_rfl) (by kernel_rfl) (by kernel_rfl) (fun _ _ _ h => h) (yi_move (by kernel_rfl) rfl rfl) (by assumption) ?_
              simp only [Act.put, List.getElem_toArray, List.getElem_cons_succ, List.getElem_cons_zero, List.setIfInBounds_toArray, List.set_cons_zero, List.set_cons_succ]
              refine wpAnyH_take (i := 12) (v := undef) rfl (by kernel_rfl) (by kernel_rfl) (by kernel_rfl) (fun _ _ _ h => h) (Or.inr ⟨by kernel_rfl, rfl⟩) (by assumption) ?_
              simp only [Act.put, List.getElem_toArray, List.getElem_cons_succ, List.getElem_cons_zero, List.setIfInBounds_toArray, List.set_cons_zero, List.set_cons_succ]
              refine wpAnyH_take (i := 13) (v := undef) rfl (by kernel_rfl) (by kernel_rfl) (by kernel_rfl) (fun _ _ _ h => h) (Or.inr ⟨by kernel_rfl, rfl⟩) (by assumption) ?_
              simp only [Act.put, List.getElem_toArray, List.getElem_cons_succ, List.getElem_cons_zero, List.setIfInBounds_toArray, List.set_cons_zero, List.set_cons_succ]
              refine wpAnyH_take (i := 14) (v := ?_) rfl (by kernel_rfl) (by kernel_rfl) (by kernel_rfl) (fun _ _ _ h => h) (Or.inl ⟨by kernel_rfl, ?_⟩) (by assumption) ?_
              rotate_left
              · (intro w hSw; (try dsimp only at hSw); go_simp; (try with_reducible rfl))
              simp only [Act.put, List.getElem_toArray, List.getElem_cons_succ, List.getElem_cons_zero, List.setIfInBounds_toArray, List.set_cons_zero, List.set_cons_succ]
              refine wpAnyH_take (i := 15) (v := ?_) rfl (by kernel_rfl) (by kernel_rfl) (by kernel_rfl) (fun _ _ _ h => h) (Or.inl ⟨by kernel_rfl, ?_⟩) (by assumption) ?_
              rotate_left
              · (intro w hSw; (try dsimp only at hSw); go_simp; (try with_reducible rfl))
              simp only [Act.put, List.getElem_toArray, List.getElem_cons_succ, List.getElem_cons_zero, List.setIfInBounds_toArray, List.set_cons_zero, List.set_cons_succ]
              refine wpAnyH_done (by kernel_rfl) ?_ _
              refine NoPanic.normal ?_
              clear hHeld
              replace LX := HB6
              go_wp2_with fail
              go_meet
              exact ⟨rfl, LX⟩
          case rest =>
            obtain ⟨rfl, LX⟩ := hcut
            clear hq1 hq0 ht5 HDR t q
            obtain ⟨k0, k1, k67, k68, kR, kK⟩ := HAV.out _ Q (LX.at (by simp))
            clear k0 k1 k67 k68 kR
            have HS5 : Hid (∀ W : World, (W.alloc (.cells (rv V.zr) 35)).heap[W.heap.size]? = some (.cells (rv V.zr) 35 (0, 0))) := hst35
            have hrz := rv_size zr32
            have hiZ : (Tryd.prog.info? 35).map (·.size) = some (rvL V.zr).length := by rw [rvL_length zr32]; exact info35
            have hEZ : ∀ W', (Op.equalIn 10000 35 (.agg (rvL V.zr).toArray) (.agg (rv V.zr))).run Tryd.prog W' = .ok true W' := fun W' => by
              have := eqRc V.zr V.zr zr32 zr32 W'
              rw [decide_eq_true ⟨rfl, rfl, rfl⟩] at this
              exact this
            go_upto_region 31 with (first
              | (refine wl_mid (by kernel_rfl) 33 _ rfl Q 2 rfl (x.r.key.map vb) _ kK und27 rfl hiK ?_; clear kK)
              | (go_at_call 16; refine (CR.out _ (by omega) LX).mono ?_; clear CR LX; rintro e w9 ⟨⟨r2, q2, rfl, hr2, g1, g0⟩, LX⟩; have hrs2 := rv_size hr2; have hro2 := rv_one r2; have HRZ : Hid (∀ W3 : World, (q2 = false → (W3.alloc (.cells (rv r2) 35)).rangeAt W3.heap.size 0 (rvL V.zr)) ∧ (q2 = true → (W3.alloc (.cells (rv r2) 35)).rangeAt W3.heap.size 0 (x.r.key.map vb))) := truR hr2 g1 g0; clear g1 g0 hr2)
              | (refine wpList_store_row rfl 35 _ _ rfl w9.heap.size (rv r2) rfl rfl 35 (rv V.zr) (HS5.out w9) (by rw [hrs2]; exact info35) (by rw [hrz, hrs2]) hro2 ?_; clear HS5; rw [World.setRow_alloc_new]; replace LX := LX.alloc (.cells (rv r2) 35); have HR9 : Hid ((q2 = false → (w9.alloc (.cells (rv r2) 35)).rangeAt w9.heap.size 0 (rvL V.zr)) ∧ (q2 = true → (w9.alloc (.cells (rv r2) 35)).rangeAt w9.heap.size 0 (x.r.key.map vb))) := HRZ.out w9; clear HRZ; obtain ⟨k0, k1, k67, k68, kR, kK⟩ := HAV.out _ Q (LX.at (by simp)); clear k0 k1 k67 k68 kR))
            generalize w9.alloc (.cells (rv r2) 35) = w10 at LX HR9 kK ⊢
            go_cut [14, 139] (fun s14 s wx => s = .bool false ∧ w10 = wx)
            case first =>
              cases q2
              · go_wp2_with (refine wl_mid (by kernel_rfl) 35 _ rfl w9.heap.size 0 rfl (rvL V.zr) _ (HR9.out.1 rfl) hum35 rfl hiZ ?_)
                go_meet
                exact ⟨rfl, rfl⟩
              · go_wp2_with (first
                  | (refine wl_mid (by kernel_rfl) 33 _ rfl w9.heap.size 0 rfl (x.r.key.map vb) _ (HR9.out.2 rfl) und27 rfl hiK ?_)
                  | (refine wl_mid (by kernel_rfl) 33 _ rfl Q 2 rfl (x.r.key.map vb) _ kK und27 rfl hiK ?_))
                go_meet
                exact ⟨rfl, rfl⟩
            case rest =>
              obtain ⟨rfl, rfl⟩ := hcut
              go_wp2_with fail
              go_roundw
              case rel => exact ⟨i + 1, _, by omega, by omega, rfl, by go_num, (LX.less (by simp)).wider (by omega)⟩
              case measure => simp [intOf]; omega
      · have LX1 : GB w wr := ⟨LX.gw, LX.o⟩
        have CPB : Hid (∀ W', GB w W' → Calls Tryd.prog 9 #[.pointer none, .string ⟨#[]⟩] W' fun e w' => e = .returned (.tuple #[.agg zero32, .int .i64 2]) ∧ GB w w') := fun W' h => by
          refine (PutBlob_nil ⟨#[]⟩ W').mono ?_
          rintro e w' ⟨rfl, hb⟩; exact ⟨rfl, h.step hb⟩
        have CBN : Hid (∀ W', GB w W' → Calls Tryd.prog 15 #[.pointer none, .agg zero32] W' fun e w' => e = .returned (.tuple #[.string ⟨#[]⟩, .bool false]) ∧ GB w w') := fun W' h => by
          have hh := Blob_nil V.zd W'
          rw [zd_dg] at hh
          refine hh.mono ?_
          rintro e w' ⟨rfl, hb⟩; exact ⟨rfl, h.step hb⟩
        have CPN : Hid (∀ W' v, GB w W' → Calls Tryd.prog 17 #[.pointer none, v] W' fun e w' => e = .returned (.tuple #[]) ∧ GB w w') := fun W' v h => by
          refine (Pin_nil v W').mono ?_
          rintro e w' ⟨rfl, hb⟩; exact ⟨rfl, h.step hb⟩
        have CFR : Hid (∀ W', GB w W' → Calls Tryd.prog 18 #[.pointer none] W' fun e w' => e = .returned (.tuple #[]) ∧ GB w w') := fun W' h => by
          refine (Free_nil W').mono ?_
          rintro e w' ⟨rfl, hb⟩; exact ⟨rfl, h.step hb⟩
        have CPR : Hid (∀ W', GB w W' → Calls Tryd.prog 10 #[.pointer none, .agg (rv V.zr)] W' fun e w' => e = .returned (.int .i64 2) ∧ GB w w') := fun W' h => by
          refine (PutRec_nil V.zr W').mono ?_
          rintro e w' ⟨rfl, hb⟩; exact ⟨rfl, h.step hb⟩
        have CSY : Hid (∀ W', GB w W' → Calls Tryd.prog 19 #[.pointer none] W' fun e w' => e = .returned (.int .i64 2) ∧ GB w w') := fun W' h => by
          refine (SyncV_nil W').mono ?_
          rintro e w' ⟨rfl, hw⟩; rw [hw]; exact ⟨rfl, h⟩
        have CLN : Hid (∀ W', GB w W' → Calls Tryd.prog 20 #[.pointer none] W' fun e w' => e = .returned (.int .i64 0) ∧ GB w w') := fun W' h => by
          refine (LenH_nil W').mono ?_
          rintro e w' ⟨rfl, hw⟩; rw [hw]; exact ⟨rfl, h⟩
        have CKY : Hid (∀ W', GB w W' → Calls Tryd.prog 21 #[.pointer none] W' fun e w' => e = .returned (.slice none 0 0) ∧ GB w w') := fun W' h => by
          refine (Keys_nil W').mono ?_
          rintro e w' ⟨rfl, hw⟩; rw [hw]; exact ⟨rfl, h⟩
        have HST : Hid (∀ W : World, (W.alloc (.cells zero32 33)).heap[W.heap.size]? = some (.cells zero32 33 (0, 0))) := hst32
        have hz3 := zero32_size
        have h31 := zero32_one
        have HAL : Hid (∀ (W' : World) (o : Obj), GB w W' → GB w (W'.alloc o)) := fun W' o h => h.alloc o
        have h0d := zero32_dg
        clear LX h0d hz
        have XI : (¬ (i : Int) < (acts.length : Int)) ∨ ((i : Int) < (acts.length : Int) ∧ i = 70) := by omega
        clear hlt
        rcases XI with XI | ⟨XI, rfl⟩
        all_goals
          go_wp2_with (first
            | (go_at_call 9; refine (CPB.out _ LX1).mono ?_; clear CPB LX1; rintro e w3 ⟨rfl, LX1⟩)
            | (refine wpList_store_row rfl 33 _ _ rfl w3.heap.size zero32 rfl rfl 33 zero32 (HST.out w3) (by rw [hz3]; exact info27) rfl h31 ?_; clear HST; rw [World.setRow_alloc_new]; replace LX1 := HAL.out _ (.cells zero32 33) LX1)
            | (go_at_call 15; refine (CBN.out _ LX1).mono ?_; clear CBN LX1; rintro e w5 ⟨rfl, LX1⟩)
            | (refine wl_bs33 rfl _ rfl V.zd zd_length rfl ?_; replace LX1 := HAL.out _ (.cells (dg V.zd) 33) LX1)
            | (go_at_call 17; refine (CPN.out _ _ LX1).mono ?_; clear CPN LX1; rintro e w6 ⟨rfl, LX1⟩)
            | (go_at_call 18; refine (CFR.out _ LX1).mono ?_; clear CFR LX1; rintro e w7 ⟨rfl, LX1⟩)
            | (go_at_call 10; refine (CPR.out _ LX1).mono ?_; clear CPR LX1; rintro e w8 ⟨rfl, LX1⟩)
            | (go_at_call 19; refine (CSY.out _ LX1).mono ?_; clear CSY LX1; rintro e w9 ⟨rfl, LX1⟩)
            | (go_at_call 20; refine (CLN.out _ LX1).mono ?_; clear CLN LX1; rintro e w10 ⟨rfl, LX1⟩)
            | (go_at_call 21; refine (CKY.out _ LX1).mono ?_; clear CKY LX1; rintro e w11 ⟨rfl, LX1⟩))
          go_ret
          exact ⟨rfl, LX1.b⟩
  · go_ret
    exact ⟨rfl, HG.b⟩
end Go.Proofs.YtbaemckmhnkfaaaDoor
