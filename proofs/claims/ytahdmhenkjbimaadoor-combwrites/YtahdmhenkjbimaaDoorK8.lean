/- What comb.Decode answers of a manifest's bytes. -/
import Derived.Test.YtahdmhenkjbimaaDoorK7
namespace Go.Proofs.YtahdmhenkjbimaaDoor
open Go.RowKit
set_option linter.unusedVariables false
set_option linter.unusedSimpArgs false

theorem step_load_mid {P : Program} {ops : Array Oper} {o : Oper} {a : Act} {w : World} {K : Act → World → Prop} {Q : Exit → Act → World → Prop} {E : Prop} (hgd : o.guard = none) (ty : TypeId) (x : Operand) (ho : o.op = .load ty x)
    (b off : Nat) (hx : a.eval x = .pointer (some ⟨b, off, none⟩)) (cs : List Value) (d : TypeDesc) (hc : w.rangeAt b off cs)
    (hu : P.underlying ty = some d) (hd : d.isRow = true) (hi : (P.info? ty).map (·.size) = some cs.length)
    (h : K (a.put o.dst (.agg cs.toArray)) w) : if Region.wanted o (yielded ops a.tmps) = true then Oper.wp P o a w K Q else E := by
  have hw : Region.wanted o (yielded ops a.tmps) = true := by simp [Region.wanted, hgd]
  rw [if_pos hw]
  exact wp_load_mid ty x ho b off hx cs d hc hu hd hi h
set_option maxRecDepth 8000 in
set_option maxHeartbeats 2000000 in
theorem decode_yes (s : List UInt8) (w : World) (hs : s.length ≤ 9223372036854775807) (a b : List UInt8) (D : List (List UInt8)) (n : Int) (hR : M.readRow s 3 = some ([a, b, D.flatten], [])) (hbl : b.length ≤ 9223372036854775807) (hN : M.readNum b = some (n, [])) (ha : a.length = 32) (hD : ∀ d ∈ D, d.length = 32) (hgd : goodB n D.length = true) :
    Calls Tryd.prog 8 #[.string (M.bs s)] w fun e w' => ∃ pa pc, e = .returned (.tuple #[.agg (mv a n pa D.length pc), .int .i64 0]) ∧ Dgs w'.heap.size w' pa D ∧ Below w.heap.size w w' := by
  have hn8 : D.length ≤ 8 := by unfold goodB at hgd; simp only [decide_eq_true_eq] at hgd; unfold S.nch at hgd; omega
  have hfl := dgs_flat D hD
  have hfq : D.flatten.length / 32 = D.length := by omega
  obtain ⟨hf1, hf2⟩ := fold_mv a ha n
  have H33 : Hid (∀ pa k pc, (mv a n none 0 0).setIfInBounds 33 (.slice pa k pc) = mv a n pa k pc) := fun pa k pc => mv_set33 a n none pa 0 0 k pc ha
  have hz := zero34_size
  have h1 : zero34.all (·.oneCell') = true := mv_one _ _ _ _ _
  obtain ⟨fs, hum⟩ := und27m
  have hzz : ∀ W, (zeroValue 26).run Tryd.prog W = .ok (.agg zero34) W := zero27m
  have HB : Hid (Below w.heap.size w (w.alloc (.cells zero34 26))) := (Below.refl _ w).alloc (Nat.le_refl _) _
  have HH : Hid (∀ W, Bl (w.alloc (.cells zero34 26)) W → W.heap[w.heap.size]? = some (.cells zero34 26 (0, 0))) := fun W hW => by rw [Below.block hW _ (by simp)]; exact heap_alloc_new _ _
  have H0 : Bl (w.alloc (.cells zero34 26)) (w.alloc (.cells zero34 26)) := Below.refl _ _
  have HE : Hid (∀ W, Bl (w.alloc (.cells zero34 26)) W → Below w.heap.size w W) := fun W hW => HB.out.trans (Below.mono hW (by simp))
  have HNS : Hid (∀ pa k pc, (mv a n pa k pc).size = 34) := fun pa k pc => mv_size a n pa k pc ha
  have HN1 : Hid (∀ pa k pc, (mv a n pa k pc).all (·.oneCell') = true) := fun pa k pc => mv_one a n pa k pc
  obtain ⟨DA, hDA⟩ : ∃ DA, dg a = DA := ⟨_, rfl⟩
  rw [hDA] at hf1 hf2
  have HDA : Hid (List.toArray (a.map vb) = DA) := hDA
  have hDs : DA.size = 32 := by rw [← hDA, dg_size, ha]
  obtain ⟨F, hF⟩ : ∃ F, Array.foldl (fun (cs : Array Value) (x : Value × Nat) => cs.setIfInBounds x.snd x.fst) zero34 DA.zipIdx 0 32 = F := ⟨_, rfl⟩
  rw [hF] at hf1 hf2
  obtain ⟨E, hE⟩ : ∃ E, mv a n none 0 0 = E := ⟨_, rfl⟩
  rw [hE] at hf2 H33
  generalize zero34 = Z at *
  clear hDA hE
  have CR : Hid (∀ W, Bl (w.alloc (.cells Z 26)) W → Calls Tryd.prog 26 #[.string (M.bs s), .int .i64 3] W fun e w' => ∃ sa sc, e = .returned (.tuple #[.slice sa 3 sc, .string ⟨#[]⟩, .bool true]) ∧ Strs w'.heap.size w' (.slice sa 3 sc) [a, b, D.flatten] ∧ Bl (w.alloc (.cells Z 26)) w') := fun W hW => readRow_yesX s 3 hs (Or.inl (by omega)) [a, b, D.flatten] [] hR hW
  have CN : Hid (∀ W, Bl (w.alloc (.cells Z 26)) W → Calls Tryd.prog 27 #[.string (M.bs b)] W fun e w' => e = .returned (.tuple #[.int .i64 n, .string ⟨#[]⟩, .bool true]) ∧ Bl (w.alloc (.cells Z 26)) w') := fun W hW => by
    have := readNum_b b (by unfold maxLen; omega) hW
    rw [hN] at this
    exact this
  have CZ : Hid (∀ W, Bl (w.alloc (.cells Z 26)) W → Calls Tryd.prog 28 #[.int .i64 n, .int .i64 (D.length : Int)] W fun e w' => e = .returned (.bool true) ∧ Bl (w.alloc (.cells Z 26)) w') := fun W hW => by
    rw [← hgd]
    refine (sized_at n D.length W).mono ?_
    rintro e w' ⟨rfl, rfl⟩
    exact ⟨rfl, hW⟩
  have CD : Hid (∀ W, Calls Tryd.prog 29 #[.string (M.bs D.flatten)] W fun e w' => ∃ pa pc, e = .returned (.slice pa D.length pc) ∧ Dgs w'.heap.size w' pa D ∧ (∀ b off, pa = some ⟨b, off, none⟩ → W.heap.size ≤ b) ∧ Below W.heap.size W w') := fun W => digests_at D hD hn8 W
  have hne := bs_nil
  have hza := M.bs_size a
  have hzc := M.bs_size D.flatten
  have ha1 : ((a.length : Int) != 32) = false := by simp; omega
  have hm2 : Int.tmod (D.flatten.length : Int) 32 = 0 := by rw [Int.tmod_eq_emod_of_nonneg (by omega)]; omega
  have hm1 : ((D.flatten.length : Int) % 32 != 0) = false := by rw [bne_eq_false_iff_eq]; omega
  have hq : Int.tdiv (D.flatten.length : Int) 32 = (D.length : Int) := by rw [Int.tdiv_eq_ediv_of_nonneg (by omega)]; omega
  have HCV : Hid (∀ W, ∃ cap W', (convert 9 43 (.string (M.bs a))).run Tryd.prog W = .ok (.slice (some ⟨W.heap.size, 0, none⟩) 32 cap) W' ∧ 32 ≤ cap ∧ Below W.heap.size W W' ∧ W'.rangeAt W.heap.size 0 (a.map vb) ∧ W'.heap.size = W.heap.size + 1) := fun W => by have := conv_to a W; rw [ha] at this; exact this
  have hi : (Tryd.prog.info? 23).map (·.size) = some (a.map vb).length := by rw [info27, List.length_map, ha]
  have har := run_arr
  have HUB : Hid (∀ W, Bl (w.alloc (.cells Z 26)) W → w.heap.size < W.heap.size) := fun W hW => by have := Below.size hW; simp at this; omega
  clear hs hR hN hgd hD hfq
  generalize D.flatten = FL at *
  go_enter Tryd.func8, Tryd.ntmps8
  go_wp2_with (first
    | (go_at_call 26; refine (CR.out _ H0).mono ?_; clear CR H0; rintro e w2 ⟨sa, sc, rfl, HS2, HB2⟩))
  obtain ⟨sb, off, e1, _, hc0⟩ := strs_at HS2 0 a rfl
  obtain ⟨sb1, off1, e2, _, hc1⟩ := strs_at HS2 1 b rfl
  obtain ⟨sb2, off2, e3, _, hc2⟩ := strs_at HS2 2 FL rfl
  subst e1
  simp only [Option.some.injEq, Addr.mk.injEq, and_true] at e2 e3
  obtain ⟨rfl, rfl⟩ := e2
  obtain ⟨rfl, rfl⟩ := e3
  rw [Nat.add_zero] at hc0
  go_quiet (fail)
  have HB3 : Bl (w.alloc (.cells Z 26)) (w2.drewN nq) := HB2.drewN nq
  clear HS2 hc0 hc1 hc2 HB2
  generalize w2.drewN nq = w3 at *
  go_wp2_with (first
    | (go_at_call 27; refine (CN.out _ HB3).mono ?_; clear CN HB3; rintro e w4 ⟨rfl, HB4⟩)
    | (go_at_call 28; refine (CZ.out _ HB4).mono ?_; clear CZ HB4; rintro e w5 ⟨rfl, HB5⟩))
  refine wp_region_any (by kernel_rfl) ?_
  (try (change wpAny _ _ _ _ _ _ _ (World.drew _)))
  have HB5d : Bl (w.alloc (.cells Z 26)) w5.drew := Bl.drewN HB5 1
  refine wpAny_take (i := 0) (v := .string (M.bs a)) rfl (by kernel_rfl) (by kernel_rfl) (by kernel_rfl) (fun _ _ _ h => h) (Or.inl ⟨by rfl, fun w => by go_simp⟩) ?_
  (try simp only [Act.put, List.setIfInBounds_toArray, List.set_cons_zero, List.set_cons_succ, List.getElem_toArray, List.getElem_cons_succ, List.getElem_cons_zero])
  refine wpAny_take (i := 4) (v := .int .i64 n) rfl (by kernel_rfl) (by kernel_rfl) (by kernel_rfl) (fun _ _ _ h => h) (Or.inl ⟨by rfl, fun w => by go_simp⟩) ?_
  (try simp only [Act.put, List.setIfInBounds_toArray, List.set_cons_zero, List.set_cons_succ, List.getElem_toArray, List.getElem_cons_succ, List.getElem_cons_zero])
  refine wpAny_take (i := 5) (v := .string (M.bs FL)) rfl (by kernel_rfl) (by kernel_rfl) (by kernel_rfl) (fun _ _ _ h => h) (Or.inl ⟨by rfl, fun w => by go_simp⟩) ?_
  (try simp only [Act.put, List.setIfInBounds_toArray, List.set_cons_zero, List.set_cons_succ, List.getElem_toArray, List.getElem_cons_succ, List.getElem_cons_zero])
  refine wpAny_ready (rs := [1, 6]) (by kernel_rfl) (by simp) ?_
  refine AllReady.cons rfl (fun K hK => ?_) (AllReady.cons rfl (fun K hK => ?_) AllReady.nil)
  · obtain ⟨cap, W6, hcv, hcap, hB6, hr6, hs6⟩ := HCV.out (w5.drew)
    have HB6 : Bl (w.alloc (.cells Z 26)) W6 := Bl.step HB5d hB6
    have HR6 : Hid (W6.rangeAt w5.heap.size 0 (a.map vb)) := hr6
    have HS6 : Hid (W6.heap.size = w5.heap.size + 1) := hs6
    clear hr6 hs6 hB6
    go_simp
    refine hK _ _ ?_
    clear hK K hcv
    (try simp only [Act.put, List.setIfInBounds_toArray, List.set_cons_zero, List.set_cons_succ, List.getElem_toArray, List.getElem_cons_succ, List.getElem_cons_zero])
    refine wpAny_take (i := 2) (v := .pointer (some ⟨w5.heap.size, 0, none⟩)) rfl (by kernel_rfl) (by kernel_rfl) (by kernel_rfl) (fun _ _ _ h => h) (Or.inl ⟨by rfl, fun w => by go_simp⟩) ?_
    (try simp only [Act.put, List.setIfInBounds_toArray, List.set_cons_zero, List.set_cons_succ, List.getElem_toArray, List.getElem_cons_succ, List.getElem_cons_zero])
    refine wpAny_ready (rs := [3, 6]) (by kernel_rfl) (by simp) ?_
    refine AllReady.cons rfl (fun K hK => ?_) (AllReady.cons rfl (fun K hK => ?_) AllReady.nil)
    · refine step_load_mid rfl 23 _ rfl w5.heap.size 0 (by rfl) (a.map vb) _ HR6.out und27 rfl hi (hK _ _ ?_)
      clear hK K
      rw [HDA.out]
      (try simp only [Act.put, List.setIfInBounds_toArray, List.set_cons_zero, List.set_cons_succ, List.getElem_toArray, List.getElem_cons_succ, List.getElem_cons_zero])
      refine wpAny_ready (rs := [6]) (by kernel_rfl) (by simp) ?_
      refine AllReady.cons rfl (fun K hK => ?_) AllReady.nil
      go_simp
      go_at_call 29
      refine (CD.out _).mono ?_
      rintro e w7 ⟨pa, pc, rfl, HD7, HU7, HB7⟩
      have HU8 : Hid (∀ b off, pa = some ⟨b, off, none⟩ → w.heap.size < b) := fun b off e => Nat.lt_of_lt_of_le (HUB.out _ HB6) (HU7 b off e)
      clear HU7
      dsimp only
      refine hK _ _ ?_
      clear hK K
      (try simp only [Act.put, List.setIfInBounds_toArray, List.set_cons_zero, List.set_cons_succ, List.getElem_toArray, List.getElem_cons_succ, List.getElem_cons_zero])
      have HBF : Bl (w.alloc (.cells Z 26)) w7 := Bl.step HB6 HB7
      have h33 := H33.out pa D.length pc
      have hrow : w7.heap[w.heap.size]? = some (.cells Z 26 (0, 0)) := HH.out _ HBF
      have hbel : Below w.heap.size w w7 := HE.out _ HBF
      have hdg : Dgs w7.heap.size w7 pa D := HD7
      refine wpAny_take (i := 7) (v := .agg (mv a n pa D.length pc)) rfl (by kernel_rfl) (by kernel_rfl) (by kernel_rfl) (fun _ _ _ h => h) (Or.inl ⟨by rfl, fun w => by go_simp⟩) ?_
      (try simp only [Act.put, List.setIfInBounds_toArray, List.set_cons_zero, List.set_cons_succ, List.getElem_toArray, List.getElem_cons_succ, List.getElem_cons_zero])
      refine wpAny_ready (rs := [8]) (by kernel_rfl) (by simp) ?_
      refine AllReady.cons rfl (fun K hK => ?_) AllReady.nil
      refine step_store_row rfl 26 _ _ rfl w.heap.size (mv a n pa D.length pc) (by rfl) (by rfl) 26 Z hrow (by rw [HNS.out]; exact info27m) (by rw [hz, HNS.out]) (HN1.out _ _ _) (hK _ _ ?_)
      clear hK K
      (try simp only [Act.put, List.setIfInBounds_toArray, List.set_cons_zero, List.set_cons_succ, List.getElem_toArray, List.getElem_cons_succ, List.getElem_cons_zero])
      refine wpAny_take (i := 9) (v := .int .i64 0) rfl (by kernel_rfl) (by kernel_rfl) (by kernel_rfl) (fun _ _ _ h => h) (Or.inl ⟨by rfl, fun w => by go_simp⟩) ?_
      (try simp only [Act.put, List.setIfInBounds_toArray, List.set_cons_zero, List.set_cons_succ, List.getElem_toArray, List.getElem_cons_succ, List.getElem_cons_zero])
      refine wpAny_done (by kernel_rfl) ?_ _
      go_wp2_with fail
      (try simp only [Exit.inBlock, Exit.then])
      refine bodyPost_ret (results2_row rfl _ _ _ 26 _ (0, 0) _ rfl (setRow_heap _ _ _ _ _ _ hrow) hum rfl (by rw [HNS.out]; exact info27m)) rfl ?_
      have hb9 := below_setRow hbel (Nat.le_refl _) (mv a n pa D.length pc)
      refine ⟨pa, pc, rfl, ?_, hb9⟩
      intro i d hid
      obtain ⟨q0, qb, qo, q1, q2, q3⟩ := hdg i d hid
      have hne9 : qb ≠ w.heap.size := by have := HU8.out qb qo q1; omega
      have hOr : Off w.heap.size w7 (w7.setRow w.heap.size (mv a n pa D.length pc)) := (Off.refl _ _).setRow _
      refine ⟨q0, qb, qo, q1, Nat.lt_of_lt_of_le q2 hOr.size, fun j u hu => ?_⟩
      rw [hOr.cell (p := ⟨qb, qo + i * 32 + j, none⟩) q2 hne9]
      exact q3 j u hu
    · go_simp
      go_at_call 29
      refine (CD.out _).mono ?_
      rintro e w7 ⟨pa, pc, rfl, HD7, HU7, HB7⟩
      have HU8 : Hid (∀ b off, pa = some ⟨b, off, none⟩ → w.heap.size < b) := fun b off e => Nat.lt_of_lt_of_le (HUB.out _ HB6) (HU7 b off e)
      clear HU7
      dsimp only
      refine hK _ _ ?_
      clear hK K
      (try simp only [Act.put, List.setIfInBounds_toArray, List.set_cons_zero, List.set_cons_succ, List.getElem_toArray, List.getElem_cons_succ, List.getElem_cons_zero])
      have HBF : Bl (w.alloc (.cells Z 26)) w7 := Bl.step HB6 HB7
      have HR7 : w7.rangeAt w5.heap.size 0 (a.map vb) := rangeAt_below HB7 HR6.out (by rw [HS6.out]; omega)
      refine wpAny_ready (rs := [3]) (by kernel_rfl) (by simp) ?_
      refine AllReady.cons rfl (fun K hK => ?_) AllReady.nil
      refine step_load_mid rfl 23 _ rfl w5.heap.size 0 (by rfl) (a.map vb) _ HR7 und27 rfl hi (hK _ _ ?_)
      clear hK K
      rw [HDA.out]
      (try simp only [Act.put, List.setIfInBounds_toArray, List.set_cons_zero, List.set_cons_succ, List.getElem_toArray, List.getElem_cons_succ, List.getElem_cons_zero])
      have h33 := H33.out pa D.length pc
      have hrow : w7.heap[w.heap.size]? = some (.cells Z 26 (0, 0)) := HH.out _ HBF
      have hbel : Below w.heap.size w w7 := HE.out _ HBF
      have hdg : Dgs w7.heap.size w7 pa D := HD7
      refine wpAny_take (i := 7) (v := .agg (mv a n pa D.length pc)) rfl (by kernel_rfl) (by kernel_rfl) (by kernel_rfl) (fun _ _ _ h => h) (Or.inl ⟨by rfl, fun w => by go_simp⟩) ?_
      (try simp only [Act.put, List.setIfInBounds_toArray, List.set_cons_zero, List.set_cons_succ, List.getElem_toArray, List.getElem_cons_succ, List.getElem_cons_zero])
      refine wpAny_ready (rs := [8]) (by kernel_rfl) (by simp) ?_
      refine AllReady.cons rfl (fun K hK => ?_) AllReady.nil
      refine step_store_row rfl 26 _ _ rfl w.heap.size (mv a n pa D.length pc) (by rfl) (by rfl) 26 Z hrow (by rw [HNS.out]; exact info27m) (by rw [hz, HNS.out]) (HN1.out _ _ _) (hK _ _ ?_)
      clear hK K
      (try simp only [Act.put, List.setIfInBounds_toArray, List.set_cons_zero, List.set_cons_succ, List.getElem_toArray, List.getElem_cons_succ, List.getElem_cons_zero])
      refine wpAny_take (i := 9) (v := .int .i64 0) rfl (by kernel_rfl) (by kernel_rfl) (by kernel_rfl) (fun _ _ _ h => h) (Or.inl ⟨by rfl, fun w => by go_simp⟩) ?_
      (try simp only [Act.put, List.setIfInBounds_toArray, List.set_cons_zero, List.set_cons_succ, List.getElem_toArray, List.getElem_cons_succ, List.getElem_cons_zero])
      refine wpAny_done (by kernel_rfl) ?_ _
      go_wp2_with fail
      (try simp only [Exit.inBlock, Exit.then])
      refine bodyPost_ret (results2_row rfl _ _ _ 26 _ (0, 0) _ rfl (setRow_heap _ _ _ _ _ _ hrow) hum rfl (by rw [HNS.out]; exact info27m)) rfl ?_
      have hb9 := below_setRow hbel (Nat.le_refl _) (mv a n pa D.length pc)
      refine ⟨pa, pc, rfl, ?_, hb9⟩
      intro i d hid
      obtain ⟨q0, qb, qo, q1, q2, q3⟩ := hdg i d hid
      have hne9 : qb ≠ w.heap.size := by have := HU8.out qb qo q1; omega
      have hOr : Off w.heap.size w7 (w7.setRow w.heap.size (mv a n pa D.length pc)) := (Off.refl _ _).setRow _
      refine ⟨q0, qb, qo, q1, Nat.lt_of_lt_of_le q2 hOr.size, fun j u hu => ?_⟩
      rw [hOr.cell (p := ⟨qb, qo + i * 32 + j, none⟩) q2 hne9]
      exact q3 j u hu
  · go_simp
    go_at_call 29
    refine (CD.out _).mono ?_
    rintro e w7 ⟨pa, pc, rfl, HD7, HU7, HB7⟩
    have HU8 : Hid (∀ b off, pa = some ⟨b, off, none⟩ → w.heap.size < b) := fun b off e => Nat.lt_of_lt_of_le (HUB.out _ HB5d) (HU7 b off e)
    clear HU7
    dsimp only
    refine hK _ _ ?_
    clear hK K
    (try simp only [Act.put, List.setIfInBounds_toArray, List.set_cons_zero, List.set_cons_succ, List.getElem_toArray, List.getElem_cons_succ, List.getElem_cons_zero])
    have HBF0 : Bl (w.alloc (.cells Z 26)) w7 := Bl.step HB5d HB7
    refine wpAny_ready (rs := [1]) (by kernel_rfl) (by simp) ?_
    refine AllReady.cons rfl (fun K hK => ?_) AllReady.nil
    obtain ⟨cap, W6, hcv, hcap, hB6, hr6, hs6⟩ := HCV.out (w7)
    have HB6 : Bl (w.alloc (.cells Z 26)) W6 := Bl.step HBF0 hB6
    have HR6 : Hid (W6.rangeAt w7.heap.size 0 (a.map vb)) := hr6
    have HS6 : Hid (W6.heap.size = w7.heap.size + 1) := hs6
    have HCB : Hid (Below w7.heap.size w7 W6) := hB6
    clear hr6 hs6 hB6
    go_simp
    refine hK _ _ ?_
    clear hK K hcv
    (try simp only [Act.put, List.setIfInBounds_toArray, List.set_cons_zero, List.set_cons_succ, List.getElem_toArray, List.getElem_cons_succ, List.getElem_cons_zero])
    refine wpAny_take (i := 2) (v := .pointer (some ⟨w7.heap.size, 0, none⟩)) rfl (by kernel_rfl) (by kernel_rfl) (by kernel_rfl) (fun _ _ _ h => h) (Or.inl ⟨by rfl, fun w => by go_simp⟩) ?_
    (try simp only [Act.put, List.setIfInBounds_toArray, List.set_cons_zero, List.set_cons_succ, List.getElem_toArray, List.getElem_cons_succ, List.getElem_cons_zero])
    refine wpAny_ready (rs := [3]) (by kernel_rfl) (by simp) ?_
    refine AllReady.cons rfl (fun K hK => ?_) AllReady.nil
    refine step_load_mid rfl 23 _ rfl w7.heap.size 0 (by rfl) (a.map vb) _ HR6.out und27 rfl hi (hK _ _ ?_)
    clear hK K
    rw [HDA.out]
    (try simp only [Act.put, List.setIfInBounds_toArray, List.set_cons_zero, List.set_cons_succ, List.getElem_toArray, List.getElem_cons_succ, List.getElem_cons_zero])
    have h33 := H33.out pa D.length pc
    have hrow : W6.heap[w.heap.size]? = some (.cells Z 26 (0, 0)) := HH.out _ HB6
    have hbel : Below w.heap.size w W6 := HE.out _ HB6
    have hdg : Dgs W6.heap.size W6 pa D := (HD7.below ((HCB.out)) (by rw [HS6.out]; omega))
    refine wpAny_take (i := 7) (v := .agg (mv a n pa D.length pc)) rfl (by kernel_rfl) (by kernel_rfl) (by kernel_rfl) (fun _ _ _ h => h) (Or.inl ⟨by rfl, fun w => by go_simp⟩) ?_
    (try simp only [Act.put, List.setIfInBounds_toArray, List.set_cons_zero, List.set_cons_succ, List.getElem_toArray, List.getElem_cons_succ, List.getElem_cons_zero])
    refine wpAny_ready (rs := [8]) (by kernel_rfl) (by simp) ?_
    refine AllReady.cons rfl (fun K hK => ?_) AllReady.nil
    refine step_store_row rfl 26 _ _ rfl w.heap.size (mv a n pa D.length pc) (by rfl) (by rfl) 26 Z hrow (by rw [HNS.out]; exact info27m) (by rw [hz, HNS.out]) (HN1.out _ _ _) (hK _ _ ?_)
    clear hK K
    (try simp only [Act.put, List.setIfInBounds_toArray, List.set_cons_zero, List.set_cons_succ, List.getElem_toArray, List.getElem_cons_succ, List.getElem_cons_zero])
    refine wpAny_take (i := 9) (v := .int .i64 0) rfl (by kernel_rfl) (by kernel_rfl) (by kernel_rfl) (fun _ _ _ h => h) (Or.inl ⟨by rfl, fun w => by go_simp⟩) ?_
    (try simp only [Act.put, List.setIfInBounds_toArray, List.set_cons_zero, List.set_cons_succ, List.getElem_toArray, List.getElem_cons_succ, List.getElem_cons_zero])
    refine wpAny_done (by kernel_rfl) ?_ _
    go_wp2_with fail
    (try simp only [Exit.inBlock, Exit.then])
    refine bodyPost_ret (results2_row rfl _ _ _ 26 _ (0, 0) _ rfl (setRow_heap _ _ _ _ _ _ hrow) hum rfl (by rw [HNS.out]; exact info27m)) rfl ?_
    have hb9 := below_setRow hbel (Nat.le_refl _) (mv a n pa D.length pc)
    refine ⟨pa, pc, rfl, ?_, hb9⟩
    intro i d hid
    obtain ⟨q0, qb, qo, q1, q2, q3⟩ := hdg i d hid
    have hne9 : qb ≠ w.heap.size := by have := HU8.out qb qo q1; omega
    have hOr : Off w.heap.size W6 (W6.setRow w.heap.size (mv a n pa D.length pc)) := (Off.refl _ _).setRow _
    refine ⟨q0, qb, qo, q1, Nat.lt_of_lt_of_le q2 hOr.size, fun j u hu => ?_⟩
    rw [hOr.cell (p := ⟨qb, qo + i * 32 + j, none⟩) q2 hne9]
    exact q3 j u hu
end Go.Proofs.YtahdmhenkjbimaaDoor
