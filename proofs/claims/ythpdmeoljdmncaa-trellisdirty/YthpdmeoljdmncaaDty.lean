/- TrellisDirty, walked. -/
import Derived.Test.YthpdmeoljdmncaaGre8
import Derived.Test.YthpdmeoljdmncaaAw8
import Derived.Test.YthpdmeoljdmncaaTM4
import Derived.Test.YthpdmeoljdmncaaOrd8
namespace Go.Proofs.Ythpdmeoljdmncaa
open Go.RowKit
set_option linter.unusedVariables false
set_option linter.unusedSimpArgs false

def isB (xs nd : List (List UInt8)) (n : List UInt8) (k : Nat) : Bool := decide (n ∈ xs) || (nd.take k).any fun s => decide (s ∈ xs)
theorem isB_succ {xs nd : List (List UInt8)} {n s : List UInt8} {k : Nat} (h : nd[k]? = some s) : isB xs nd n (k + 1) = (isB xs nd n k || decide (s ∈ xs)) := by
  unfold isB
  rw [List.take_add_one, h, List.any_append, Bool.or_assoc]; simp
theorem isB_zero (xs nd : List (List UInt8)) (n : List UInt8) : isB xs nd n 0 = decide (n ∈ xs) := by simp [isB]
def frB (g : RC.Gr) (ins : List (List UInt8)) (s : List UInt8) (j : Nat) : Bool := decide (s ∈ ins) || (ins.take j).any fun u => decide (s ∈ ndL g u)
theorem frB_succ {g : RC.Gr} {ins : List (List UInt8)} {s u : List UInt8} {j : Nat} (h : ins[j]? = some u) : frB g ins s (j + 1) = (frB g ins s j || decide (s ∈ ndL g u)) := by
  unfold frB
  rw [List.take_add_one, h, List.any_append, Bool.or_assoc]; simp
theorem frB_zero (g : RC.Gr) (ins : List (List UInt8)) (s : List UInt8) : frB g ins s 0 = decide (s ∈ ins) := by simp [frB]
theorem frB_all {g : RC.Gr} (h : TR.Good g) {p : Nat} {t : RC.Ac} (ht : g.2[p]? = some t) {s : List UInt8} (hs : s ∈ ndL g t.1) : frB g t.2.1 s t.2.1.length = true := by
  unfold frB
  rw [List.take_length, Bool.or_eq_true, decide_eq_true_eq, List.any_eq_true]
  rcases nd_from h ht hs with h1 | ⟨u, h1, h2⟩
  · exact Or.inl h1
  · exact Or.inr ⟨u, h1, by simpa using h2⟩

set_option maxRecDepth 8000 in
set_option maxHeartbeats 16000000 in
theorem trellisDirty_walk (W : World) (g : RC.Gr) (sa : Option Addr) (sc : Nat) (aa : Option Addr) (ac : Nat) (hg : GA W.heap.size W g sa sc aa ac) (hk : grOk g)
    (xs : List (List UInt8)) (xa : Option Addr) (xc : Nat) (hx : Strs W.heap.size W (.slice xa xs.length xc) xs) (hxn : xs.length ≤ maxLen) (hxl : ∀ s ∈ xs, s.length ≤ maxLen) :
    Calls Try.prog 5 #[.agg (gv g sa sc aa ac), .slice xa xs.length xc] W fun e w' => e = .returned (.bool true) ∧ Bl W w' := by
  let BX : Obj := .cells #[.slice sa g.1.length sc, .slice aa g.2.length ac] 25
  have CA : Hid (Calls Try.prog 9 #[] (W.alloc BX) fun e w' => e = .returned (.bool true) ∧ Bl (W.alloc BX) w') := awake_8 (Bl.refl _)
  have CG : Hid (∀ U, Bl (W.alloc BX) U → Calls Try.prog 10 #[.agg (gv g sa sc aa ac), .slice xa xs.length xc] U fun e w' => e = .returned (.bool (greatB g xs)) ∧ Bl (W.alloc BX) w') := fun U hU =>
    great_x g sa sc aa ac hU (hg.bl (((Bl.refl W).alloc _).step hU)) hk xs xa xc (hx.bl (((Bl.refl W).alloc _).step hU)) hxl hxn
  have HC : Hid (∀ U, Bl (W.alloc BX) U → U.cell? ⟨W.heap.size, 0, none⟩ = some (.slice sa g.1.length sc) ∧ U.cell? ⟨W.heap.size, 1, none⟩ = some (.slice aa g.2.length ac) ∧ W.heap.size < U.heap.size ∧ Bl W U) := fun U hU => box_cells hU
  cases hgr : greatB g xs with
  | true =>
    rw [hgr] at CG
    clear hg hk hgr hx hxl
    unfold gv at CG ⊢
    go_enter Try.func5, Try.ntmps5
    go_wp2_with (first
      | (go_at_call 9; refine CA.out.mono ?_; clear CA; rintro e w1 ⟨rfl, HB1⟩; obtain ⟨p1, p2, p3, p4⟩ := HC.out _ HB1)
      | (go_at_call 10; refine (CG.out _ HB1).mono ?_; clear CG; rintro e w2 ⟨rfl, HB2⟩))
    go_ret
    exact ⟨rfl, (HC.out _ HB2).2.2.2⟩
  | false =>
  rw [hgr] at CG
  obtain ⟨b1, b2, _, _, bx, _⟩ := great_not hgr
  have CC : Hid (∀ U, Bl (W.alloc BX) U → Calls Try.prog 11 #[.agg (gv g sa sc aa ac)] U fun e w' => e = .returned (.int .i64 (TR.chk g : Int)) ∧ Bl (W.alloc BX) w') := fun U hU =>
    Check_x g sa sc aa ac hU (hg.bl (((Bl.refl W).alloc _).step hU)) hk
  by_cases hck : TR.chk g = 0
  · have hG := TR.chk_zero.1 hck
    have hle := hG.le
    have CD : Hid (∀ U, Bl (W.alloc BX) U → Calls Try.prog 19 #[.agg (gv g sa sc aa ac), .slice xa xs.length xc] U fun e w' => ∃ a c, e = .returned (.slice a (drL g xs).length c) ∧ IA w' a (drL g xs) ∧ Bl (W.alloc BX) w') := fun U hU =>
      Dirty_x g sa sc aa ac xs xa xc hU (hg.bl (((Bl.refl W).alloc _).step hU)) hk (hx.bl (((Bl.refl W).alloc _).step hU)) hxn
    have CN : Hid (∀ U s, Bl (W.alloc BX) U → Calls Try.prog 17 #[.agg (gv g sa sc aa ac), .string (M.bs s)] U fun e w' => ∃ a c, e = .returned (.slice a (ndL g s).length c) ∧ TA.TS w' a (ndL g s) ∧ Bl U w') := fun U s hU => by
      refine (Needs_x g sa sc aa ac s (Bl.refl U) (hg.bl (((Bl.refl W).alloc _).step hU)) hk).mono ?_
      rintro e w' ⟨v, rfl, ho, hb⟩
      obtain ⟨a, c, rfl, _, hs⟩ := Strs.ofOwns ho
      exact ⟨a, c, rfl, TA.ts_of hs, hb⟩
    have CIX : Hid (∀ U s, Bl (W.alloc BX) U → Calls Try.prog 21 #[.slice xa xs.length xc, .string (M.bs s)] U fun e w' => e = .returned (.bool (decide (s ∈ xs))) ∧ w' = U) := fun U s hU =>
      in_at xs xa xc s U (Strs.sa (hx.bl (((Bl.refl W).alloc _).step hU))).2 hxn
    have hdl : drL g xs = plcs (drt g (TR.fin g) (TR.setOf (TR.nm g) xs)) g.2.length := by unfold drL; rw [if_pos hck]
    have HDI : Hid (∀ (i : Nat) (t : RC.Ac), g.2[i]? = some t → drt g (TR.fin g) (TR.setOf (TR.nm g) xs) i = isB xs (ndL g t.1) t.1 (ndL g t.1).length) := fun i t ht => by
      rw [drt_iff hG ht]; unfold isB; rw [List.take_length]
    rw [hdl] at CD
    rw [hck] at CC
    have HGD : Hid (TR.Good g) := hG
    have HGA : Hid (∀ U, Bl (W.alloc BX) U → GA U.heap.size U g sa sc aa ac) := fun U hU => hg.bl (((Bl.refl W).alloc _).step hU)
    have HGK : Hid (grOk g) := hk
    obtain ⟨fs, hum⟩ := undAc
    clear hg hk hgr hG hdl hck hx hxl hxn
    generalize drt g (TR.fin g) (TR.setOf (TR.nm g) xs) = q at *
    have hpl := plcs_le q g.2.length
    unfold gv at CG CD CC CN ⊢
    go_enter Try.func5, Try.ntmps5
    go_wp2_with (first
      | (go_at_call 9; refine CA.out.mono ?_; clear CA; rintro e w1 ⟨rfl, HB1⟩; obtain ⟨p1, p2, p3, p4⟩ := HC.out _ HB1)
      | (go_at_call 10; refine (CG.out _ HB1).mono ?_; clear CG p1 p2 p3 p4 HB1; rintro e w2 ⟨rfl, HB2⟩; obtain ⟨p1, p2, p3, p4⟩ := HC.out _ HB2)
      | (go_at_call 11; refine (CC.out _ HB2).mono ?_; clear CC p1 p2 p3 p4 HB2; rintro e w3 ⟨rfl, HB3⟩; obtain ⟨p1, p2, p3, p4⟩ := HC.out _ HB3)
      | (go_at_call 19; refine (CD.out _ HB3).mono ?_; clear CD p1 p2 p3 p4 HB3; rintro e w4 ⟨la, lc, rfl, HI4, HB4⟩; have HII : Hid (IA w4 la (plcs q g.2.length)) := HI4; have HBX : Hid (Bl (W.alloc BX) w4) := HB4; clear HI4 HB4))
    go_loopw [6, 7, 8, 9, 10, 11, 12, 13, 14, 15] (fun u6 u7 u8 u9 u10 u11 u12 u13 u14 u15 wr => ∃ i : Nat, i ≤ g.2.length ∧ u7 = .int .i64 i ∧ u6 = .int .i64 ((plcs q i).length : Int) ∧ Bl w4 wr) (fun _ u7 _ _ _ _ _ _ _ _ _ => g.2.length - (intOf u7).toNat)
    case atStart => exact ⟨0, Nat.zero_le _, rfl, rfl, Bl.refl w4⟩
    case round =>
      obtain ⟨i, hi0, rfl, rfl, hb⟩ := hrel
      have HB : Hid (Bl w4 wr) := hb
      obtain ⟨p1, p2, p3, p4⟩ := HC.out _ (HBX.out.step hb)
      clear hb
      by_cases hlt : i < g.2.length
      · obtain ⟨t, ht⟩ : ∃ t, g.2[i]? = some t := ⟨g.2[i], List.getElem?_eq_getElem hlt⟩
        obtain ⟨ab, aoff, x, c, rfl, hab, hr, hs⟩ := (HGA.out _ (HBX.out.step HB.out)).a i t ht
        have hil := (HGK.out.b t (List.mem_of_getElem? ht)).2.1
        have HQ : Hid (q i = isB xs (ndL g t.1) t.1 (ndL g t.1).length) := HDI.out i t ht
        have HFR : Hid (∀ s ∈ ndL g t.1, frB g t.2.1 s t.2.1.length = true) := fun s hs => frB_all HGD.out ht hs
        have HINS : Hid (∀ s ∈ t.2.1, s ∈ ndL g t.1) := fun s hs => nd_ins HGD.out ht hs
        have HSELF : Hid (t.1 ∉ ndL g t.1) := nd_self HGD.out ht
        have HLT : Hid ((ndL g t.1).Pairwise (· < ·)) := ndL_lt HGD.out ht
        have hnl := ndL_len HGD.out t.1
        have HPG : Hid (if q i = true then (plcs q g.2.length)[(plcs q i).length]? = some i else (plcs q g.2.length)[(plcs q i).length]? ≠ some i) := plcs_get q g.2.length i hlt
        have hpi := plcs_le q i
        have HPS : Hid (plcs q (i + 1) = plcs q i ++ (if q i then [i] else [])) := plcs_succ q i
        have hi := infoAc t x c
        have HSX : Hid (∀ U, Bl wr U → SA U x t.2.1) := fun U hU => (Strs.sa (hs.bl hU)).2
        obtain ⟨n, ins, code⟩ := t
        unfold acL at hi hr
        simp only [] at hi hr HQ HFR HINS HSELF HLT HSX hil hnl
        have HR : Hid (wr.rangeAt ab (aoff + i * 3) [.string (M.bs n), .slice x ins.length c, .string (M.bs code)]) := hr
        unfold maxLen at hil
        have CN0 : Hid (∀ o, Calls Try.prog 17 #[.agg #[.slice sa g.1.length sc, .slice (some ⟨ab, aoff, none⟩) g.2.length ac], .string (M.bs n)] (wr.alloc (.cells #[.string (M.bs n), .slice x ins.length c, .string (M.bs code)] o)) fun e w' => ∃ a c', e = .returned (.slice a (ndL g n).length c') ∧ TA.TS w' a (ndL g n) ∧ Bl wr w' ∧ w'.cell? ⟨wr.heap.size, 0, none⟩ = some (.string (M.bs n)) ∧ w'.cell? ⟨wr.heap.size, 1, none⟩ = some (.slice x ins.length c) ∧ wr.heap.size < w'.heap.size) := fun o => by
          have hz : wr.heap.size < (wr.alloc (.cells #[.string (M.bs n), .slice x ins.length c, .string (M.bs code)] o)).heap.size := by simp
          refine (CN.out _ n ((HBX.out.step HB.out).alloc _)).mono ?_
          rintro e w' ⟨a, c', rfl, h1, h2⟩
          refine ⟨a, c', rfl, h1, ((Bl.refl wr).alloc _).step h2, ?_, ?_, Nat.lt_of_lt_of_le hz (Below.size h2)⟩
          · rw [Bl.cell h2 hz, Lib.cell_of_heap (heap_alloc_new wr _)]; rfl
          · rw [Bl.cell h2 hz, Lib.cell_of_heap (heap_alloc_new wr _)]; rfl
        clear ht hr hs
        generalize hND : ndL g n = ND at *
        go_wp2_with (first
          | (refine wpList_load_mid rfl 41 _ rfl ab (aoff + i * 3) rfl _ _ HR.out hum rfl hi ?_; clear HR)
          | (go_at_call 17; refine (CN0.out _).mono ?_; clear CN0; rintro e w6 ⟨na, nc, rfl, hts, hb6, q0, q1, q2⟩; have HTS : Hid (TA.TS w6 na ND) := hts; have HB6 : Hid (Bl wr w6) := hb6; clear hts hb6)
          | (go_at_call 21; refine (CIX.out _ n (HBX.out.step (HB.out.step HB6.out))).mono ?_; rintro e w' ⟨rfl, hw'⟩; rw [hw']; clear hw' w'))
        generalize wr.heap.size = ub at *
        have HBW6 : Hid (Bl (W.alloc BX) w6) := HBX.out.step (HB.out.step HB6.out)
        go_loopw [10, 11, 12, 13] (fun u10 u11 u12 u13 wr => ∃ k : Nat, k ≤ ND.length ∧ u11 = .int .i64 k ∧ u10 = .bool (isB xs ND n k) ∧ Bl w6 wr) (fun _ u11 _ _ _ => ND.length - (intOf u11).toNat)
        case atStart => exact ⟨0, Nat.zero_le _, rfl, by rw [isB_zero], Bl.refl w6⟩
        case round =>
          obtain ⟨k, hk0, rfl, rfl, hb⟩ := hrel
          have HBk : Hid (Bl w6 wr) := hb
          clear p1 p2 p3 p4
          obtain ⟨p1, p2, p3, p4⟩ := HC.out _ (HBW6.out.step hb)
          have r0 : wr.cell? ⟨ub, 0, none⟩ = some (.string (M.bs n)) := by rw [Bl.cell hb q2]; exact q0
          have r1 : wr.cell? ⟨ub, 1, none⟩ = some (.slice x ins.length c) := by rw [Bl.cell hb q2]; exact q1
          have r2 : ub < wr.heap.size := Nat.lt_of_lt_of_le q2 (Below.size hb)
          clear hb
          by_cases hlk : k < ND.length
          · obtain ⟨s, hs⟩ : ∃ s, ND[k]? = some s := ⟨ND[k], List.getElem?_eq_getElem hlk⟩
            obtain ⟨nb, noff, rfl, hnb, hnc⟩ := (TA.TS.below HTS.out HBk.out) k s hs
            have CIS : Hid (Calls Try.prog 21 #[.slice xa xs.length xc, .string (M.bs s)] wr fun e w' => e = .returned (.bool (decide (s ∈ xs))) ∧ w' = wr) := CIX.out wr s (HBW6.out.step HBk.out)
            have HIS : Hid (isB xs ND n (k + 1) = (isB xs ND n k || decide (s ∈ xs))) := isB_succ hs
            have HSK : Hid (ND[k]? = some s) := hs
            have HFRS : Hid (frB g ins s ins.length = true) := HFR.out s (List.mem_of_getElem? hs)
            obtain ⟨z, hz⟩ : ∃ z, isB xs ND n k = z := ⟨_, rfl⟩
            rw [hz] at HIS ⊢
            clear hs hz
            rcases Nat.eq_zero_or_pos k with hkp | hkp
            · have hd0 : decide ((0 : Int) < (k : Int)) = false := by simp; omega
              have hd1 : decide (0 < k) = false := by simp; omega
              clear hkp
              cases z
              · go_wp2_with (go_at_call 21; refine CIS.out.mono ?_; clear CIS; rintro e w' ⟨rfl, hw'⟩; rw [hw']; clear hw' w')
                go_quiet (fail)
                have HBV : Hid (Bl w6 (wr.drewN nq)) := HBk.out.drewN nq
                have v1 : (wr.drewN nq).cell? ⟨ub, 1, none⟩ = some (.slice x ins.length c) := r1
                have v2 : (wr.drewN nq).cell? ⟨nb, noff + k, none⟩ = some (.string (M.bs s)) := hnc
                have CI19 : Hid (∀ m, Calls Try.prog 21 #[.slice x ins.length c, .string (M.bs s)] ((wr.drewN nq).drewN m) fun e w' => e = .returned (.bool (decide (s ∈ ins))) ∧ w' = (wr.drewN nq).drewN m) := fun m =>
                  in_at ins x c s _ (HSX.out _ (HB6.out.step ((HBk.out.drewN nq).drewN m))) (by unfold maxLen; omega)
                have HBN : Hid (nb < (wr.drewN nq).heap.size ∧ ub < (wr.drewN nq).heap.size) := ⟨hnb, r2⟩
                generalize wr.drewN nq = V at *
                go_wp2_with fail
                go_quiet ((go_at_call 21; exact Calls.quiet_of_same (CI19.out _)))
                go_wp2_with fail
                clear CI19 r0 r1 r2 hnc hnb p1 p2 p3 p4 v1 v2
                go_loopw [12, 13] (fun u12 u13 wr => ∃ j : Nat, j ≤ ins.length ∧ u13 = .int .i64 j ∧ u12 = .bool (frB g ins s j) ∧ Bl V wr) (fun _ u13 _ => ins.length - (intOf u13).toNat)
                case atStart => exact ⟨0, Nat.zero_le _, rfl, by rw [frB_zero], (Bl.refl V).drewN _⟩
                case round =>
                  obtain ⟨j, hj0, rfl, rfl, hbj⟩ := hrel
                  have HBJ : Hid (Bl V wr) := hbj
                  have HBWJ : Hid (Bl (W.alloc BX) wr) := HBW6.out.step (HBV.out.step hbj)
                  obtain ⟨p1, p2, p3, p4⟩ := HC.out _ HBWJ.out
                  have r1 : wr.cell? ⟨ub, 1, none⟩ = some (.slice x ins.length c) := by rw [Bl.cell (HBV.out.step hbj) q2]; exact q1
                  have r2 : ub < wr.heap.size := Nat.lt_of_lt_of_le HBN.out.2 (Below.size hbj)
                  obtain ⟨nb', noff', en', hnb, hnc⟩ := (TA.TS.below HTS.out (HBV.out.step hbj)) k s HSK.out
                  simp only [Option.some.injEq, Addr.mk.injEq, and_true] at en'
                  obtain ⟨rfl, rfl⟩ := en'
                  clear hbj
                  by_cases hlj : j < ins.length
                  · obtain ⟨u, hu⟩ : ∃ u, ins[j]? = some u := ⟨ins[j], List.getElem?_eq_getElem hlj⟩
                    obtain ⟨xb, xoff, rfl, hxc⟩ := HSX.out _ (HB6.out.step (HBV.out.step HBJ.out)) j u hu
                    have hxb : xb < wr.heap.size := World.block_lt_of_cell? _ _ hxc
                    have HFS : Hid (frB g ins s (j + 1) = (frB g ins s j || decide (s ∈ ndL g u))) := frB_succ hu
                    have KPU : Hid (∀ U, Bl wr U → U.cell? ⟨W.heap.size, 0, none⟩ = some (.slice sa g.1.length sc) ∧ U.cell? ⟨W.heap.size, 1, none⟩ = some (.slice (some ⟨ab, aoff, none⟩) g.2.length ac) ∧ U.cell? ⟨ub, 1, none⟩ = some (.slice (some ⟨xb, xoff, none⟩) ins.length c) ∧ U.cell? ⟨xb, xoff + j, none⟩ = some (.string (M.bs u)) ∧ U.cell? ⟨nb, noff + k, none⟩ = some (.string (M.bs s))) := fun U hU =>
                      ⟨by rw [Bl.cell hU p3]; exact p1, by rw [Bl.cell hU p3]; exact p2, by rw [Bl.cell hU r2]; exact r1, by rw [Bl.cell hU hxb]; exact hxc, by rw [Bl.cell hU hnb]; exact hnc⟩
                    have CNU : Hid (∀ U, Bl wr U → Calls Try.prog 17 #[.agg #[.slice sa g.1.length sc, .slice (some ⟨ab, aoff, none⟩) g.2.length ac], .string (M.bs u)] U fun e w' => ∃ a c, e = .returned (.slice a (ndL g u).length c) ∧ TA.TS w' a (ndL g u) ∧ Bl wr w') := fun U hU => by
                      refine (CN.out U u (HBWJ.out.step hU)).mono ?_
                      rintro e w' ⟨a, c', rfl, h1, h2⟩
                      exact ⟨a, c', rfl, h1, hU.step h2⟩
                    have hnu := ndL_len HGD.out u
                    have CIU : Hid (∀ (U : World) (a : Option Addr) (c' : Nat), TA.TS U a (ndL g u) → Bl wr U → Calls Try.prog 21 #[.slice a (ndL g u).length c', .string (M.bs s)] U fun e w' => e = .returned (.bool (decide (s ∈ ndL g u))) ∧ Bl wr w') := fun U a c' hts hU => by
                      refine (in_at (ndL g u) a c' s U (fun i t ht => ?_) (by unfold maxLen; omega)).mono ?_
                      · obtain ⟨b, off, h1, _, h2⟩ := hts i t ht; exact ⟨b, off, h1, h2⟩
                      · rintro e w' ⟨rfl, rfl⟩; exact ⟨rfl, hU⟩
                    have hjl : (j : Int) < (ins.length : Int) := by omega
                    have hkl : (k : Int) < (ND.length : Int) := by omega
                    clear hu hxc hnc p1 p2
                    obtain ⟨y, hy⟩ : ∃ y, frB g ins s j = y := ⟨_, rfl⟩
                    rw [hy] at HFS ⊢
                    clear hy
                    cases y
                    · go_wp2_with fail
                      refine wp_region_noPanic ?_
                      refine wp_region_held_drew (S := fun U => U.cell? ⟨W.heap.size, 0, none⟩ = some (.slice sa g.1.length sc) ∧ U.cell? ⟨W.heap.size, 1, none⟩ = some (.slice (some ⟨ab, aoff, none⟩) g.2.length ac) ∧ U.cell? ⟨ub, 1, none⟩ = some (.slice (some ⟨xb, xoff, none⟩) ins.length c) ∧ U.cell? ⟨xb, xoff + j, none⟩ = some (.string (M.bs u)) ∧ U.cell? ⟨nb, noff + k, none⟩ = some (.string (M.bs s))) (by kernel_rfl) (KPU.out _ ((Bl.refl wr).drewN 1)) (fun hHeld => ?_)
                      refine wpAnyH_take (i := 0) rfl (by kernel_rfl) (by kernel_rfl) (by kernel_rfl) (fun _ _ _ h => h) (yi_move (by kernel_rfl) rfl rfl) (by assumption) ?_
                      simp only [Act.put, List.getElem_toArray, List.getElem_cons_succ, List.getElem_cons_zero, List.setIfInBounds_toArray, List.set_cons_zero, List.set_cons_succ]
                      refine wpAnyH_take (i := 1) rfl (by kernel_rfl) (by kernel_rfl) (by kernel_rfl) (fun _ _ _ h => h) (yi_move (by kernel_rfl) rfl rfl) (by assumption) ?_
                      simp only [Act.put, List.getElem_toArray, List.getElem_cons_succ, List.getElem_cons_zero, List.setIfInBounds_toArray, List.set_cons_zero, List.set_cons_succ]
                      refine wpAnyH_take (i := 2) (v := ?_) rfl (by kernel_rfl) (by kernel_rfl) (by kernel_rfl) (fun _ _ _ h => h) (Or.inl ⟨by kernel_rfl, ?_⟩) (by assumption) ?_
                      rotate_left
                      · (intro w hSw; (try dsimp only at hSw); go_simp; (try with_reducible rfl))
                      simp only [Act.put, List.getElem_toArray, List.getElem_cons_succ, List.getElem_cons_zero, List.setIfInBounds_toArray, List.set_cons_zero, List.set_cons_succ]
                      refine wpAnyH_take (i := 3) (v := ?_) rfl (by kernel_rfl) (by kernel_rfl) (by kernel_rfl) (fun _ _ _ h => h) (Or.inl ⟨by kernel_rfl, ?_⟩) (by assumption) ?_
                      rotate_left
                      · (intro w hSw; (try dsimp only at hSw); go_simp; (try with_reducible rfl))
                      simp only [Act.put, List.getElem_toArray, List.getElem_cons_succ, List.getElem_cons_zero, List.setIfInBounds_toArray, List.set_cons_zero, List.set_cons_succ]
                      refine wpAnyH_take (i := 4) (v := ?_) rfl (by kernel_rfl) (by kernel_rfl) (by kernel_rfl) (fun _ _ _ h => h) (Or.inl ⟨by kernel_rfl, ?_⟩) (by assumption) ?_
                      rotate_left
                      · (intro w hSw; (try dsimp only at hSw); go_simp; (try with_reducible rfl))
                      simp only [Act.put, List.getElem_toArray, List.getElem_cons_succ, List.getElem_cons_zero, List.setIfInBounds_toArray, List.set_cons_zero, List.set_cons_succ]
                      refine wpAnyH_take (i := 5) rfl (by kernel_rfl) (by kernel_rfl) (by kernel_rfl) (fun _ _ _ h => h) (yi_move (by kernel_rfl) rfl rfl) (by assumption) ?_
                      simp only [Act.put, List.getElem_toArray, List.getElem_cons_succ, List.getElem_cons_zero, List.setIfInBounds_toArray, List.set_cons_zero, List.set_cons_succ]
                      refine wpAnyH_take (i := 6) (v := ?_) rfl (by kernel_rfl) (by kernel_rfl) (by kernel_rfl) (fun _ _ _ h => h) (Or.inl ⟨by kernel_rfl, ?_⟩) (by assumption) ?_
                      rotate_left
                      · (intro w hSw; (try dsimp only at hSw); go_simp; (try with_reducible rfl))
                      simp only [Act.put, List.getElem_toArray, List.getElem_cons_succ, List.getElem_cons_zero, List.setIfInBounds_toArray, List.set_cons_zero, List.set_cons_succ]
                      refine wpAnyH_take (i := 7) (v := ?_) rfl (by kernel_rfl) (by kernel_rfl) (by kernel_rfl) (fun _ _ _ h => h) (Or.inl ⟨by kernel_rfl, ?_⟩) (by assumption) ?_
                      rotate_left
                      · (intro w hSw; (try dsimp only at hSw); go_simp; (try with_reducible rfl))
                      simp only [Act.put, List.getElem_toArray, List.getElem_cons_succ, List.getElem_cons_zero, List.setIfInBounds_toArray, List.set_cons_zero, List.set_cons_succ]
                      refine wpAnyH_take (i := 9) rfl (by kernel_rfl) (by kernel_rfl) (by kernel_rfl) (fun _ _ _ h => h) (yi_move (by kernel_rfl) rfl rfl) (by assumption) ?_
                      simp only [Act.put, List.getElem_toArray, List.getElem_cons_succ, List.getElem_cons_zero, List.setIfInBounds_toArray, List.set_cons_zero, List.set_cons_succ]
                      refine wpAnyH_take (i := 10) rfl (by kernel_rfl) (by kernel_rfl) (by kernel_rfl) (fun _ _ _ h => h) (yi_move (by kernel_rfl) rfl rfl) (by assumption) ?_
                      simp only [Act.put, List.getElem_toArray, List.getElem_cons_succ, List.getElem_cons_zero, List.setIfInBounds_toArray, List.set_cons_zero, List.set_cons_succ]
                      refine wpAnyH_take (i := 11) (v := ?_) rfl (by kernel_rfl) (by kernel_rfl) (by kernel_rfl) (fun _ _ _ h => h) (Or.inl ⟨by kernel_rfl, ?_⟩) (by assumption) ?_
                      rotate_left
                      · (intro w hSw; (try dsimp only at hSw); go_simp; (try with_reducible rfl))
                      simp only [Act.put, List.getElem_toArray, List.getElem_cons_succ, List.getElem_cons_zero, List.setIfInBounds_toArray, List.set_cons_zero, List.set_cons_succ]
                      refine wpAnyH_take (i := 12) (v := ?_) rfl (by kernel_rfl) (by kernel_rfl) (by kernel_rfl) (fun _ _ _ h => h) (Or.inl ⟨by kernel_rfl, ?_⟩) (by assumption) ?_
                      rotate_left
                      · (intro w hSw; (try dsimp only at hSw); go_simp; (try with_reducible rfl))
                      simp only [Act.put, List.getElem_toArray, List.getElem_cons_succ, List.getElem_cons_zero, List.setIfInBounds_toArray, List.set_cons_zero, List.set_cons_succ]
                      refine wpAnyH_ready (rs := [8]) (by kernel_rfl) (by simp) ?_
                      refine AllReadyH.cons (o := _) rfl (fun K hK => ?_) AllReadyH.nil
                      go_simp
                      go_at_call 17; refine (CNU.out _ ((Bl.refl wr).drewN 1)).mono ?_; rintro e w' ⟨ya, yc, rfl, HYS, HB13⟩
                      refine hK.out _ _ (KPU.out _ HB13) (fun hHeld => ?_)
                      clear hK K
                      (try simp only [Act.put, List.getElem_toArray, List.getElem_cons_succ, List.getElem_cons_zero, List.setIfInBounds_toArray, List.set_cons_zero, List.set_cons_succ])
                      refine wpAnyH_ready (rs := [13]) (by kernel_rfl) (by simp) ?_
                      refine AllReadyH.cons (o := _) rfl (fun K hK => ?_) AllReadyH.nil
                      go_simp
                      go_at_call 21; refine (CIU.out _ _ _ HYS HB13).mono ?_; rintro e w' ⟨rfl, HB14⟩
                      refine hK.out _ _ (KPU.out _ HB14) (fun hHeld => ?_)
                      clear hK K
                      (try simp only [Act.put, List.getElem_toArray, List.getElem_cons_succ, List.getElem_cons_zero, List.setIfInBounds_toArray, List.set_cons_zero, List.set_cons_succ])
                      refine wpAnyH_take (i := 14) (v := ?_) rfl (by kernel_rfl) (by kernel_rfl) (by kernel_rfl) (fun _ _ _ h => h) (Or.inl ⟨by kernel_rfl, ?_⟩) (by assumption) ?_
                      rotate_left
                      · (intro w hSw; (try dsimp only at hSw); go_simp; (try with_reducible rfl))
                      simp only [Act.put, List.getElem_toArray, List.getElem_cons_succ, List.getElem_cons_zero, List.setIfInBounds_toArray, List.set_cons_zero, List.set_cons_succ]
                      refine wpAnyH_take (i := 15) rfl (by kernel_rfl) (by kernel_rfl) (by kernel_rfl) (fun _ _ _ h => h) (yi_assign (by kernel_rfl) rfl rfl) (by assumption) ?_
                      simp only [Act.put, List.getElem_toArray, List.getElem_cons_succ, List.getElem_cons_zero, List.setIfInBounds_toArray, List.set_cons_zero, List.set_cons_succ]
                      refine wpAnyH_done (by kernel_rfl) ?_ _
                      refine NoPanic.normal ?_
                      go_wp2_with fail
                      go_roundw
                      case rel => exact ⟨j + 1, by omega, by go_num, by rw [HFS.out]; rfl, HBJ.out.step (HB14)⟩
                      case measure => simp [intOf]; omega
                    · go_wp2_with fail
                      refine wp_region_noPanic ?_
                      refine wp_region_held_drew (S := fun U => U.cell? ⟨W.heap.size, 0, none⟩ = some (.slice sa g.1.length sc) ∧ U.cell? ⟨W.heap.size, 1, none⟩ = some (.slice (some ⟨ab, aoff, none⟩) g.2.length ac) ∧ U.cell? ⟨ub, 1, none⟩ = some (.slice (some ⟨xb, xoff, none⟩) ins.length c) ∧ U.cell? ⟨xb, xoff + j, none⟩ = some (.string (M.bs u)) ∧ U.cell? ⟨nb, noff + k, none⟩ = some (.string (M.bs s))) (by kernel_rfl) (KPU.out _ ((Bl.refl wr).drewN 1)) (fun hHeld => ?_)
                      refine wpAnyH_take (i := 0) rfl (by kernel_rfl) (by kernel_rfl) (by kernel_rfl) (fun _ _ _ h => h) (yi_move (by kernel_rfl) rfl rfl) (by assumption) ?_
                      simp only [Act.put, List.getElem_toArray, List.getElem_cons_succ, List.getElem_cons_zero, List.setIfInBounds_toArray, List.set_cons_zero, List.set_cons_succ]
                      refine wpAnyH_take (i := 1) rfl (by kernel_rfl) (by kernel_rfl) (by kernel_rfl) (fun _ _ _ h => h) (yi_move (by kernel_rfl) rfl rfl) (by assumption) ?_
                      simp only [Act.put, List.getElem_toArray, List.getElem_cons_succ, List.getElem_cons_zero, List.setIfInBounds_toArray, List.set_cons_zero, List.set_cons_succ]
                      refine wpAnyH_take (i := 2) (v := undef) rfl (by kernel_rfl) (by kernel_rfl) (by kernel_rfl) (fun _ _ _ h => h) (Or.inr ⟨by kernel_rfl, rfl⟩) (by assumption) ?_
                      simp only [Act.put, List.getElem_toArray, List.getElem_cons_succ, List.getElem_cons_zero, List.setIfInBounds_toArray, List.set_cons_zero, List.set_cons_succ]
                      refine wpAnyH_take (i := 3) (v := undef) rfl (by kernel_rfl) (by kernel_rfl) (by kernel_rfl) (fun _ _ _ h => h) (Or.inr ⟨by kernel_rfl, rfl⟩) (by assumption) ?_
                      simp only [Act.put, List.getElem_toArray, List.getElem_cons_succ, List.getElem_cons_zero, List.setIfInBounds_toArray, List.set_cons_zero, List.set_cons_succ]
                      refine wpAnyH_take (i := 4) (v := undef) rfl (by kernel_rfl) (by kernel_rfl) (by kernel_rfl) (fun _ _ _ h => h) (Or.inr ⟨by kernel_rfl, rfl⟩) (by assumption) ?_
                      simp only [Act.put, List.getElem_toArray, List.getElem_cons_succ, List.getElem_cons_zero, List.setIfInBounds_toArray, List.set_cons_zero, List.set_cons_succ]
                      refine wpAnyH_take (i := 5) (v := undef) rfl (by kernel_rfl) (by kernel_rfl) (by kernel_rfl) (fun _ _ _ h => h) (Or.inr ⟨by kernel_rfl, rfl⟩) (by assumption) ?_
                      simp only [Act.put, List.getElem_toArray, List.getElem_cons_succ, List.getElem_cons_zero, List.setIfInBounds_toArray, List.set_cons_zero, List.set_cons_succ]
                      refine wpAnyH_take (i := 6) (v := undef) rfl (by kernel_rfl) (by kernel_rfl) (by kernel_rfl) (fun _ _ _ h => h) (Or.inr ⟨by kernel_rfl, rfl⟩) (by assumption) ?_
                      simp only [Act.put, List.getElem_toArray, List.getElem_cons_succ, List.getElem_cons_zero, List.setIfInBounds_toArray, List.set_cons_zero, List.set_cons_succ]
                      refine wpAnyH_take (i := 7) (v := undef) rfl (by kernel_rfl) (by kernel_rfl) (by kernel_rfl) (fun _ _ _ h => h) (Or.inr ⟨by kernel_rfl, rfl⟩) (by assumption) ?_
                      simp only [Act.put, List.getElem_toArray, List.getElem_cons_succ, List.getElem_cons_zero, List.setIfInBounds_toArray, List.set_cons_zero, List.set_cons_succ]
                      refine wpAnyH_take (i := 8) (v := undef) rfl (by kernel_rfl) (by kernel_rfl) (by kernel_rfl) (fun _ _ _ h => h) (Or.inr ⟨by kernel_rfl, rfl⟩) (by assumption) ?_
                      simp only [Act.put, List.getElem_toArray, List.getElem_cons_succ, List.getElem_cons_zero, List.setIfInBounds_toArray, List.set_cons_zero, List.set_cons_succ]
                      refine wpAnyH_take (i := 9) (v := undef) rfl (by kernel_rfl) (by kernel_rfl) (by kernel_rfl) (fun _ _ _ h => h) (Or.inr ⟨by kernel_rfl, rfl⟩) (by assumption) ?_
                      simp only [Act.put, List.getElem_toArray, List.getElem_cons_succ, List.getElem_cons_zero, List.setIfInBounds_toArray, List.set_cons_zero, List.set_cons_succ]
                      refine wpAnyH_take (i := 10) (v := undef) rfl (by kernel_rfl) (by kernel_rfl) (by kernel_rfl) (fun _ _ _ h => h) (Or.inr ⟨by kernel_rfl, rfl⟩) (by assumption) ?_
                      simp only [Act.put, List.getElem_toArray, List.getElem_cons_succ, List.getElem_cons_zero, List.setIfInBounds_toArray, List.set_cons_zero, List.set_cons_succ]
                      refine wpAnyH_take (i := 11) (v := undef) rfl (by kernel_rfl) (by kernel_rfl) (by kernel_rfl) (fun _ _ _ h => h) (Or.inr ⟨by kernel_rfl, rfl⟩) (by assumption) ?_
                      simp only [Act.put, List.getElem_toArray, List.getElem_cons_succ, List.getElem_cons_zero, List.setIfInBounds_toArray, List.set_cons_zero, List.set_cons_succ]
                      refine wpAnyH_take (i := 12) (v := undef) rfl (by kernel_rfl) (by kernel_rfl) (by kernel_rfl) (fun _ _ _ h => h) (Or.inr ⟨by kernel_rfl, rfl⟩) (by assumption) ?_
                      simp only [Act.put, List.getElem_toArray, List.getElem_cons_succ, List.getElem_cons_zero, List.setIfInBounds_toArray, List.set_cons_zero, List.set_cons_succ]
                      refine wpAnyH_take (i := 13) (v := undef) rfl (by kernel_rfl) (by kernel_rfl) (by kernel_rfl) (fun _ _ _ h => h) (Or.inr ⟨by kernel_rfl, rfl⟩) (by assumption) ?_
                      simp only [Act.put, List.getElem_toArray, List.getElem_cons_succ, List.getElem_cons_zero, List.setIfInBounds_toArray, List.set_cons_zero, List.set_cons_succ]
                      refine wpAnyH_take (i := 14) (v := ?_) rfl (by kernel_rfl) (by kernel_rfl) (by kernel_rfl) (fun _ _ _ h => h) (Or.inl ⟨by kernel_rfl, ?_⟩) (by assumption) ?_
                      rotate_left
                      · (intro w hSw; (try dsimp only at hSw); go_simp; (try with_reducible rfl))
                      simp only [Act.put, List.getElem_toArray, List.getElem_cons_succ, List.getElem_cons_zero, List.setIfInBounds_toArray, List.set_cons_zero, List.set_cons_succ]
                      refine wpAnyH_take (i := 15) rfl (by kernel_rfl) (by kernel_rfl) (by kernel_rfl) (fun _ _ _ h => h) (yi_assign (by kernel_rfl) rfl rfl) (by assumption) ?_
                      simp only [Act.put, List.getElem_toArray, List.getElem_cons_succ, List.getElem_cons_zero, List.setIfInBounds_toArray, List.set_cons_zero, List.set_cons_succ]
                      refine wpAnyH_done (by kernel_rfl) ?_ _
                      refine NoPanic.normal ?_
                      go_wp2_with fail
                      go_roundw
                      case rel => exact ⟨j + 1, by omega, by go_num, by rw [HFS.out]; rfl, HBJ.out.step (((Bl.refl wr).drewN 1))⟩
                      case measure => simp [intOf]; omega
                  · obtain rfl : j = ins.length := by omega
                    rw [HFRS.out]
                    go_wp2_with fail
                    go_roundw
                    case rel => exact ⟨k + 1, by omega, by go_num, by rw [HIS.out]; rfl, HBV.out.step HBJ.out⟩
                    case measure => simp [intOf]; omega
              · go_wp2_with fail
                go_quiet (fail)
                have HBV : Hid (Bl w6 (wr.drewN nq)) := HBk.out.drewN nq
                have v1 : (wr.drewN nq).cell? ⟨ub, 1, none⟩ = some (.slice x ins.length c) := r1
                have v2 : (wr.drewN nq).cell? ⟨nb, noff + k, none⟩ = some (.string (M.bs s)) := hnc
                have CI19 : Hid (∀ m, Calls Try.prog 21 #[.slice x ins.length c, .string (M.bs s)] ((wr.drewN nq).drewN m) fun e w' => e = .returned (.bool (decide (s ∈ ins))) ∧ w' = (wr.drewN nq).drewN m) := fun m =>
                  in_at ins x c s _ (HSX.out _ (HB6.out.step ((HBk.out.drewN nq).drewN m))) (by unfold maxLen; omega)
                have HBN : Hid (nb < (wr.drewN nq).heap.size ∧ ub < (wr.drewN nq).heap.size) := ⟨hnb, r2⟩
                generalize wr.drewN nq = V at *
                go_wp2_with fail
                go_quiet ((go_at_call 21; exact Calls.quiet_of_same (CI19.out _)))
                go_wp2_with fail
                clear CI19 r0 r1 r2 hnc hnb p1 p2 p3 p4 v1 v2
                go_loopw [12, 13] (fun u12 u13 wr => ∃ j : Nat, j ≤ ins.length ∧ u13 = .int .i64 j ∧ u12 = .bool (frB g ins s j) ∧ Bl V wr) (fun _ u13 _ => ins.length - (intOf u13).toNat)
                case atStart => exact ⟨0, Nat.zero_le _, rfl, by rw [frB_zero], (Bl.refl V).drewN _⟩
                case round =>
                  obtain ⟨j, hj0, rfl, rfl, hbj⟩ := hrel
                  have HBJ : Hid (Bl V wr) := hbj
                  have HBWJ : Hid (Bl (W.alloc BX) wr) := HBW6.out.step (HBV.out.step hbj)
                  obtain ⟨p1, p2, p3, p4⟩ := HC.out _ HBWJ.out
                  have r1 : wr.cell? ⟨ub, 1, none⟩ = some (.slice x ins.length c) := by rw [Bl.cell (HBV.out.step hbj) q2]; exact q1
                  have r2 : ub < wr.heap.size := Nat.lt_of_lt_of_le HBN.out.2 (Below.size hbj)
                  obtain ⟨nb', noff', en', hnb, hnc⟩ := (TA.TS.below HTS.out (HBV.out.step hbj)) k s HSK.out
                  simp only [Option.some.injEq, Addr.mk.injEq, and_true] at en'
                  obtain ⟨rfl, rfl⟩ := en'
                  clear hbj
                  by_cases hlj : j < ins.length
                  · obtain ⟨u, hu⟩ : ∃ u, ins[j]? = some u := ⟨ins[j], List.getElem?_eq_getElem hlj⟩
                    obtain ⟨xb, xoff, rfl, hxc⟩ := HSX.out _ (HB6.out.step (HBV.out.step HBJ.out)) j u hu
                    have hxb : xb < wr.heap.size := World.block_lt_of_cell? _ _ hxc
                    have HFS : Hid (frB g ins s (j + 1) = (frB g ins s j || decide (s ∈ ndL g u))) := frB_succ hu
                    have KPU : Hid (∀ U, Bl wr U → U.cell? ⟨W.heap.size, 0, none⟩ = some (.slice sa g.1.length sc) ∧ U.cell? ⟨W.heap.size, 1, none⟩ = some (.slice (some ⟨ab, aoff, none⟩) g.2.length ac) ∧ U.cell? ⟨ub, 1, none⟩ = some (.slice (some ⟨xb, xoff, none⟩) ins.length c) ∧ U.cell? ⟨xb, xoff + j, none⟩ = some (.string (M.bs u)) ∧ U.cell? ⟨nb, noff + k, none⟩ = some (.string (M.bs s))) := fun U hU =>
                      ⟨by rw [Bl.cell hU p3]; exact p1, by rw [Bl.cell hU p3]; exact p2, by rw [Bl.cell hU r2]; exact r1, by rw [Bl.cell hU hxb]; exact hxc, by rw [Bl.cell hU hnb]; exact hnc⟩
                    have CNU : Hid (∀ U, Bl wr U → Calls Try.prog 17 #[.agg #[.slice sa g.1.length sc, .slice (some ⟨ab, aoff, none⟩) g.2.length ac], .string (M.bs u)] U fun e w' => ∃ a c, e = .returned (.slice a (ndL g u).length c) ∧ TA.TS w' a (ndL g u) ∧ Bl wr w') := fun U hU => by
                      refine (CN.out U u (HBWJ.out.step hU)).mono ?_
                      rintro e w' ⟨a, c', rfl, h1, h2⟩
                      exact ⟨a, c', rfl, h1, hU.step h2⟩
                    have hnu := ndL_len HGD.out u
                    have CIU : Hid (∀ (U : World) (a : Option Addr) (c' : Nat), TA.TS U a (ndL g u) → Bl wr U → Calls Try.prog 21 #[.slice a (ndL g u).length c', .string (M.bs s)] U fun e w' => e = .returned (.bool (decide (s ∈ ndL g u))) ∧ Bl wr w') := fun U a c' hts hU => by
                      refine (in_at (ndL g u) a c' s U (fun i t ht => ?_) (by unfold maxLen; omega)).mono ?_
                      · obtain ⟨b, off, h1, _, h2⟩ := hts i t ht; exact ⟨b, off, h1, h2⟩
                      · rintro e w' ⟨rfl, rfl⟩; exact ⟨rfl, hU⟩
                    have hjl : (j : Int) < (ins.length : Int) := by omega
                    have hkl : (k : Int) < (ND.length : Int) := by omega
                    clear hu hxc hnc p1 p2
                    obtain ⟨y, hy⟩ : ∃ y, frB g ins s j = y := ⟨_, rfl⟩
                    rw [hy] at HFS ⊢
                    clear hy
                    cases y
                    · go_wp2_with fail
                      refine wp_region_noPanic ?_
                      refine wp_region_held_drew (S := fun U => U.cell? ⟨W.heap.size, 0, none⟩ = some (.slice sa g.1.length sc) ∧ U.cell? ⟨W.heap.size, 1, none⟩ = some (.slice (some ⟨ab, aoff, none⟩) g.2.length ac) ∧ U.cell? ⟨ub, 1, none⟩ = some (.slice (some ⟨xb, xoff, none⟩) ins.length c) ∧ U.cell? ⟨xb, xoff + j, none⟩ = some (.string (M.bs u)) ∧ U.cell? ⟨nb, noff + k, none⟩ = some (.string (M.bs s))) (by kernel_rfl) (KPU.out _ ((Bl.refl wr).drewN 1)) (fun hHeld => ?_)
                      refine wpAnyH_take (i := 0) rfl (by kernel_rfl) (by kernel_rfl) (by kernel_rfl) (fun _ _ _ h => h) (yi_move (by kernel_rfl) rfl rfl) (by assumption) ?_
                      simp only [Act.put, List.getElem_toArray, List.getElem_cons_succ, List.getElem_cons_zero, List.setIfInBounds_toArray, List.set_cons_zero, List.set_cons_succ]
                      refine wpAnyH_take (i := 1) rfl (by kernel_rfl) (by kernel_rfl) (by kernel_rfl) (fun _ _ _ h => h) (yi_move (by kernel_rfl) rfl rfl) (by assumption) ?_
                      simp only [Act.put, List.getElem_toArray, List.getElem_cons_succ, List.getElem_cons_zero, List.setIfInBounds_toArray, List.set_cons_zero, List.set_cons_succ]
                      refine wpAnyH_take (i := 2) (v := ?_) rfl (by kernel_rfl) (by kernel_rfl) (by kernel_rfl) (fun _ _ _ h => h) (Or.inl ⟨by kernel_rfl, ?_⟩) (by assumption) ?_
                      rotate_left
                      · (intro w hSw; (try dsimp only at hSw); go_simp; (try with_reducible rfl))
                      simp only [Act.put, List.getElem_toArray, List.getElem_cons_succ, List.getElem_cons_zero, List.setIfInBounds_toArray, List.set_cons_zero, List.set_cons_succ]
                      refine wpAnyH_take (i := 3) (v := ?_) rfl (by kernel_rfl) (by kernel_rfl) (by kernel_rfl) (fun _ _ _ h => h) (Or.inl ⟨by kernel_rfl, ?_⟩) (by assumption) ?_
                      rotate_left
                      · (intro w hSw; (try dsimp only at hSw); go_simp; (try with_reducible rfl))
                      simp only [Act.put, List.getElem_toArray, List.getElem_cons_succ, List.getElem_cons_zero, List.setIfInBounds_toArray, List.set_cons_zero, List.set_cons_succ]
                      refine wpAnyH_take (i := 4) (v := ?_) rfl (by kernel_rfl) (by kernel_rfl) (by kernel_rfl) (fun _ _ _ h => h) (Or.inl ⟨by kernel_rfl, ?_⟩) (by assumption) ?_
                      rotate_left
                      · (intro w hSw; (try dsimp only at hSw); go_simp; (try with_reducible rfl))
                      simp only [Act.put, List.getElem_toArray, List.getElem_cons_succ, List.getElem_cons_zero, List.setIfInBounds_toArray, List.set_cons_zero, List.set_cons_succ]
                      refine wpAnyH_take (i := 5) rfl (by kernel_rfl) (by kernel_rfl) (by kernel_rfl) (fun _ _ _ h => h) (yi_move (by kernel_rfl) rfl rfl) (by assumption) ?_
                      simp only [Act.put, List.getElem_toArray, List.getElem_cons_succ, List.getElem_cons_zero, List.setIfInBounds_toArray, List.set_cons_zero, List.set_cons_succ]
                      refine wpAnyH_take (i := 6) (v := ?_) rfl (by kernel_rfl) (by kernel_rfl) (by kernel_rfl) (fun _ _ _ h => h) (Or.inl ⟨by kernel_rfl, ?_⟩) (by assumption) ?_
                      rotate_left
                      · (intro w hSw; (try dsimp only at hSw); go_simp; (try with_reducible rfl))
                      simp only [Act.put, List.getElem_toArray, List.getElem_cons_succ, List.getElem_cons_zero, List.setIfInBounds_toArray, List.set_cons_zero, List.set_cons_succ]
                      refine wpAnyH_take (i := 7) (v := ?_) rfl (by kernel_rfl) (by kernel_rfl) (by kernel_rfl) (fun _ _ _ h => h) (Or.inl ⟨by kernel_rfl, ?_⟩) (by assumption) ?_
                      rotate_left
                      · (intro w hSw; (try dsimp only at hSw); go_simp; (try with_reducible rfl))
                      simp only [Act.put, List.getElem_toArray, List.getElem_cons_succ, List.getElem_cons_zero, List.setIfInBounds_toArray, List.set_cons_zero, List.set_cons_succ]
                      refine wpAnyH_take (i := 9) rfl (by kernel_rfl) (by kernel_rfl) (by kernel_rfl) (fun _ _ _ h => h) (yi_move (by kernel_rfl) rfl rfl) (by assumption) ?_
                      simp only [Act.put, List.getElem_toArray, List.getElem_cons_succ, List.getElem_cons_zero, List.setIfInBounds_toArray, List.set_cons_zero, List.set_cons_succ]
                      refine wpAnyH_take (i := 10) rfl (by kernel_rfl) (by kernel_rfl) (by kernel_rfl) (fun _ _ _ h => h) (yi_move (by kernel_rfl) rfl rfl) (by assumption) ?_
                      simp only [Act.put, List.getElem_toArray, List.getElem_cons_succ, List.getElem_cons_zero, List.setIfInBounds_toArray, List.set_cons_zero, List.set_cons_succ]
                      refine wpAnyH_take (i := 11) (v := ?_) rfl (by kernel_rfl) (by kernel_rfl) (by kernel_rfl) (fun _ _ _ h => h) (Or.inl ⟨by kernel_rfl, ?_⟩) (by assumption) ?_
                      rotate_left
                      · (intro w hSw; (try dsimp only at hSw); go_simp; (try with_reducible rfl))
                      simp only [Act.put, List.getElem_toArray, List.getElem_cons_succ, List.getElem_cons_zero, List.setIfInBounds_toArray, List.set_cons_zero, List.set_cons_succ]
                      refine wpAnyH_take (i := 12) (v := ?_) rfl (by kernel_rfl) (by kernel_rfl) (by kernel_rfl) (fun _ _ _ h => h) (Or.inl ⟨by kernel_rfl, ?_⟩) (by assumption) ?_
                      rotate_left
                      · (intro w hSw; (try dsimp only at hSw); go_simp; (try with_reducible rfl))
                      simp only [Act.put, List.getElem_toArray, List.getElem_cons_succ, List.getElem_cons_zero, List.setIfInBounds_toArray, List.set_cons_zero, List.set_cons_succ]
                      refine wpAnyH_ready (rs := [8]) (by kernel_rfl) (by simp) ?_
                      refine AllReadyH.cons (o := _) rfl (fun K hK => ?_) AllReadyH.nil
                      go_simp
                      go_at_call 17; refine (CNU.out _ ((Bl.refl wr).drewN 1)).mono ?_; rintro e w' ⟨ya, yc, rfl, HYS, HB13⟩
                      refine hK.out _ _ (KPU.out _ HB13) (fun hHeld => ?_)
                      clear hK K
                      (try simp only [Act.put, List.getElem_toArray, List.getElem_cons_succ, List.getElem_cons_zero, List.setIfInBounds_toArray, List.set_cons_zero, List.set_cons_succ])
                      refine wpAnyH_ready (rs := [13]) (by kernel_rfl) (by simp) ?_
                      refine AllReadyH.cons (o := _) rfl (fun K hK => ?_) AllReadyH.nil
                      go_simp
                      go_at_call 21; refine (CIU.out _ _ _ HYS HB13).mono ?_; rintro e w' ⟨rfl, HB14⟩
                      refine hK.out _ _ (KPU.out _ HB14) (fun hHeld => ?_)
                      clear hK K
                      (try simp only [Act.put, List.getElem_toArray, List.getElem_cons_succ, List.getElem_cons_zero, List.setIfInBounds_toArray, List.set_cons_zero, List.set_cons_succ])
                      refine wpAnyH_take (i := 14) (v := ?_) rfl (by kernel_rfl) (by kernel_rfl) (by kernel_rfl) (fun _ _ _ h => h) (Or.inl ⟨by kernel_rfl, ?_⟩) (by assumption) ?_
                      rotate_left
                      · (intro w hSw; (try dsimp only at hSw); go_simp; (try with_reducible rfl))
                      simp only [Act.put, List.getElem_toArray, List.getElem_cons_succ, List.getElem_cons_zero, List.setIfInBounds_toArray, List.set_cons_zero, List.set_cons_succ]
                      refine wpAnyH_take (i := 15) rfl (by kernel_rfl) (by kernel_rfl) (by kernel_rfl) (fun _ _ _ h => h) (yi_assign (by kernel_rfl) rfl rfl) (by assumption) ?_
                      simp only [Act.put, List.getElem_toArray, List.getElem_cons_succ, List.getElem_cons_zero, List.setIfInBounds_toArray, List.set_cons_zero, List.set_cons_succ]
                      refine wpAnyH_done (by kernel_rfl) ?_ _
                      refine NoPanic.normal ?_
                      go_wp2_with fail
                      go_roundw
                      case rel => exact ⟨j + 1, by omega, by go_num, by rw [HFS.out]; rfl, HBJ.out.step (HB14)⟩
                      case measure => simp [intOf]; omega
                    · go_wp2_with fail
                      refine wp_region_noPanic ?_
                      refine wp_region_held_drew (S := fun U => U.cell? ⟨W.heap.size, 0, none⟩ = some (.slice sa g.1.length sc) ∧ U.cell? ⟨W.heap.size, 1, none⟩ = some (.slice (some ⟨ab, aoff, none⟩) g.2.length ac) ∧ U.cell? ⟨ub, 1, none⟩ = some (.slice (some ⟨xb, xoff, none⟩) ins.length c) ∧ U.cell? ⟨xb, xoff + j, none⟩ = some (.string (M.bs u)) ∧ U.cell? ⟨nb, noff + k, none⟩ = some (.string (M.bs s))) (by kernel_rfl) (KPU.out _ ((Bl.refl wr).drewN 1)) (fun hHeld => ?_)
                      refine wpAnyH_take (i := 0) rfl (by kernel_rfl) (by kernel_rfl) (by kernel_rfl) (fun _ _ _ h => h) (yi_move (by kernel_rfl) rfl rfl) (by assumption) ?_
                      simp only [Act.put, List.getElem_toArray, List.getElem_cons_succ, List.getElem_cons_zero, List.setIfInBounds_toArray, List.set_cons_zero, List.set_cons_succ]
                      refine wpAnyH_take (i := 1) rfl (by kernel_rfl) (by kernel_rfl) (by kernel_rfl) (fun _ _ _ h => h) (yi_move (by kernel_rfl) rfl rfl) (by assumption) ?_
                      simp only [Act.put, List.getElem_toArray, List.getElem_cons_succ, List.getElem_cons_zero, List.setIfInBounds_toArray, List.set_cons_zero, List.set_cons_succ]
                      refine wpAnyH_take (i := 2) (v := undef) rfl (by kernel_rfl) (by kernel_rfl) (by kernel_rfl) (fun _ _ _ h => h) (Or.inr ⟨by kernel_rfl, rfl⟩) (by assumption) ?_
                      simp only [Act.put, List.getElem_toArray, List.getElem_cons_succ, List.getElem_cons_zero, List.setIfInBounds_toArray, List.set_cons_zero, List.set_cons_succ]
                      refine wpAnyH_take (i := 3) (v := undef) rfl (by kernel_rfl) (by kernel_rfl) (by kernel_rfl) (fun _ _ _ h => h) (Or.inr ⟨by kernel_rfl, rfl⟩) (by assumption) ?_
                      simp only [Act.put, List.getElem_toArray, List.getElem_cons_succ, List.getElem_cons_zero, List.setIfInBounds_toArray, List.set_cons_zero, List.set_cons_succ]
                      refine wpAnyH_take (i := 4) (v := undef) rfl (by kernel_rfl) (by kernel_rfl) (by kernel_rfl) (fun _ _ _ h => h) (Or.inr ⟨by kernel_rfl, rfl⟩) (by assumption) ?_
                      simp only [Act.put, List.getElem_toArray, List.getElem_cons_succ, List.getElem_cons_zero, List.setIfInBounds_toArray, List.set_cons_zero, List.set_cons_succ]
                      refine wpAnyH_take (i := 5) (v := undef) rfl (by kernel_rfl) (by kernel_rfl) (by kernel_rfl) (fun _ _ _ h => h) (Or.inr ⟨by kernel_rfl, rfl⟩) (by assumption) ?_
                      simp only [Act.put, List.getElem_toArray, List.getElem_cons_succ, List.getElem_cons_zero, List.setIfInBounds_toArray, List.set_cons_zero, List.set_cons_succ]
                      refine wpAnyH_take (i := 6) (v := undef) rfl (by kernel_rfl) (by kernel_rfl) (by kernel_rfl) (fun _ _ _ h => h) (Or.inr ⟨by kernel_rfl, rfl⟩) (by assumption) ?_
                      simp only [Act.put, List.getElem_toArray, List.getElem_cons_succ, List.getElem_cons_zero, List.setIfInBounds_toArray, List.set_cons_zero, List.set_cons_succ]
                      refine wpAnyH_take (i := 7) (v := undef) rfl (by kernel_rfl) (by kernel_rfl) (by kernel_rfl) (fun _ _ _ h => h) (Or.inr ⟨by kernel_rfl, rfl⟩) (by assumption) ?_
                      simp only [Act.put, List.getElem_toArray, List.getElem_cons_succ, List.getElem_cons_zero, List.setIfInBounds_toArray, List.set_cons_zero, List.set_cons_succ]
                      refine wpAnyH_take (i := 8) (v := undef) rfl (by kernel_rfl) (by kernel_rfl) (by kernel_rfl) (fun _ _ _ h => h) (Or.inr ⟨by kernel_rfl, rfl⟩) (by assumption) ?_
                      simp only [Act.put, List.getElem_toArray, List.getElem_cons_succ, List.getElem_cons_zero, List.setIfInBounds_toArray, List.set_cons_zero, List.set_cons_succ]
                      refine wpAnyH_take (i := 9) (v := undef) rfl (by kernel_rfl) (by kernel_rfl) (by kernel_rfl) (fun _ _ _ h => h) (Or.inr ⟨by kernel_rfl, rfl⟩) (by assumption) ?_
                      simp only [Act.put, List.getElem_toArray, List.getElem_cons_succ, List.getElem_cons_zero, List.setIfInBounds_toArray, List.set_cons_zero, List.set_cons_succ]
                      refine wpAnyH_take (i := 10) (v := undef) rfl (by kernel_rfl) (by kernel_rfl) (by kernel_rfl) (fun _ _ _ h => h) (Or.inr ⟨by kernel_rfl, rfl⟩) (by assumption) ?_
                      simp only [Act.put, List.getElem_toArray, List.getElem_cons_succ, List.getElem_cons_zero, List.setIfInBounds_toArray, List.set_cons_zero, List.set_cons_succ]
                      refine wpAnyH_take (i := 11) (v := undef) rfl (by kernel_rfl) (by kernel_rfl) (by kernel_rfl) (fun _ _ _ h => h) (Or.inr ⟨by kernel_rfl, rfl⟩) (by assumption) ?_
                      simp only [Act.put, List.getElem_toArray, List.getElem_cons_succ, List.getElem_cons_zero, List.setIfInBounds_toArray, List.set_cons_zero, List.set_cons_succ]
                      refine wpAnyH_take (i := 12) (v := undef) rfl (by kernel_rfl) (by kernel_rfl) (by kernel_rfl) (fun _ _ _ h => h) (Or.inr ⟨by kernel_rfl, rfl⟩) (by assumption) ?_
                      simp only [Act.put, List.getElem_toArray, List.getElem_cons_succ, List.getElem_cons_zero, List.setIfInBounds_toArray, List.set_cons_zero, List.set_cons_succ]
                      refine wpAnyH_take (i := 13) (v := undef) rfl (by kernel_rfl) (by kernel_rfl) (by kernel_rfl) (fun _ _ _ h => h) (Or.inr ⟨by kernel_rfl, rfl⟩) (by assumption) ?_
                      simp only [Act.put, List.getElem_toArray, List.getElem_cons_succ, List.getElem_cons_zero, List.setIfInBounds_toArray, List.set_cons_zero, List.set_cons_succ]
                      refine wpAnyH_take (i := 14) (v := ?_) rfl (by kernel_rfl) (by kernel_rfl) (by kernel_rfl) (fun _ _ _ h => h) (Or.inl ⟨by kernel_rfl, ?_⟩) (by assumption) ?_
                      rotate_left
                      · (intro w hSw; (try dsimp only at hSw); go_simp; (try with_reducible rfl))
                      simp only [Act.put, List.getElem_toArray, List.getElem_cons_succ, List.getElem_cons_zero, List.setIfInBounds_toArray, List.set_cons_zero, List.set_cons_succ]
                      refine wpAnyH_take (i := 15) rfl (by kernel_rfl) (by kernel_rfl) (by kernel_rfl) (fun _ _ _ h => h) (yi_assign (by kernel_rfl) rfl rfl) (by assumption) ?_
                      simp only [Act.put, List.getElem_toArray, List.getElem_cons_succ, List.getElem_cons_zero, List.setIfInBounds_toArray, List.set_cons_zero, List.set_cons_succ]
                      refine wpAnyH_done (by kernel_rfl) ?_ _
                      refine NoPanic.normal ?_
                      go_wp2_with fail
                      go_roundw
                      case rel => exact ⟨j + 1, by omega, by go_num, by rw [HFS.out]; rfl, HBJ.out.step (((Bl.refl wr).drewN 1))⟩
                      case measure => simp [intOf]; omega
                  · obtain rfl : j = ins.length := by omega
                    rw [HFRS.out]
                    go_wp2_with fail
                    go_roundw
                    case rel => exact ⟨k + 1, by omega, by go_num, by rw [HIS.out]; rfl, HBV.out.step HBJ.out⟩
                    case measure => simp [intOf]; omega
            · obtain ⟨s', hs'⟩ : ∃ s, ND[k - 1]? = some s := ⟨ND[k - 1], List.getElem?_eq_getElem (by omega)⟩
              obtain ⟨nb', noff', e', _, hnc'⟩ := (TA.TS.below HTS.out HBk.out) (k - 1) s' hs'
              simp only [Option.some.injEq, Addr.mk.injEq, and_true] at e'
              obtain ⟨rfl, rfl⟩ := e'
              have hlt' : s' < s := pw_at HLT.out hs' (by rw [Nat.sub_add_cancel hkp]; exact HSK.out)
              have hbl : Op.bytesLess (M.bs s').toList (M.bs s).toList = true := by
                rw [Lib.toList_data, Lib.toList_data, M.bs_toList, M.bs_toList, Go.Proofs.bytesLess_eq]; simpa using hlt'
              have hd0 : decide ((0 : Int) < (k : Int)) = true := by simp; omega
              clear hs' hlt'
              cases z
              · go_wp2_with (go_at_call 21; refine CIS.out.mono ?_; clear CIS; rintro e w' ⟨rfl, hw'⟩; rw [hw']; clear hw' w')
                go_quiet (fail)
                have HBV : Hid (Bl w6 (wr.drewN nq)) := HBk.out.drewN nq
                have v1 : (wr.drewN nq).cell? ⟨ub, 1, none⟩ = some (.slice x ins.length c) := r1
                have v2 : (wr.drewN nq).cell? ⟨nb, noff + k, none⟩ = some (.string (M.bs s)) := hnc
                have CI19 : Hid (∀ m, Calls Try.prog 21 #[.slice x ins.length c, .string (M.bs s)] ((wr.drewN nq).drewN m) fun e w' => e = .returned (.bool (decide (s ∈ ins))) ∧ w' = (wr.drewN nq).drewN m) := fun m =>
                  in_at ins x c s _ (HSX.out _ (HB6.out.step ((HBk.out.drewN nq).drewN m))) (by unfold maxLen; omega)
                have HBN : Hid (nb < (wr.drewN nq).heap.size ∧ ub < (wr.drewN nq).heap.size) := ⟨hnb, r2⟩
                generalize wr.drewN nq = V at *
                go_wp2_with fail
                go_quiet ((go_at_call 21; exact Calls.quiet_of_same (CI19.out _)))
                go_wp2_with fail
                clear CI19 r0 r1 r2 hnc hnb p1 p2 p3 p4 v1 v2
                go_loopw [12, 13] (fun u12 u13 wr => ∃ j : Nat, j ≤ ins.length ∧ u13 = .int .i64 j ∧ u12 = .bool (frB g ins s j) ∧ Bl V wr) (fun _ u13 _ => ins.length - (intOf u13).toNat)
                case atStart => exact ⟨0, Nat.zero_le _, rfl, by rw [frB_zero], (Bl.refl V).drewN _⟩
                case round =>
                  obtain ⟨j, hj0, rfl, rfl, hbj⟩ := hrel
                  have HBJ : Hid (Bl V wr) := hbj
                  have HBWJ : Hid (Bl (W.alloc BX) wr) := HBW6.out.step (HBV.out.step hbj)
                  obtain ⟨p1, p2, p3, p4⟩ := HC.out _ HBWJ.out
                  have r1 : wr.cell? ⟨ub, 1, none⟩ = some (.slice x ins.length c) := by rw [Bl.cell (HBV.out.step hbj) q2]; exact q1
                  have r2 : ub < wr.heap.size := Nat.lt_of_lt_of_le HBN.out.2 (Below.size hbj)
                  obtain ⟨nb', noff', en', hnb, hnc⟩ := (TA.TS.below HTS.out (HBV.out.step hbj)) k s HSK.out
                  simp only [Option.some.injEq, Addr.mk.injEq, and_true] at en'
                  obtain ⟨rfl, rfl⟩ := en'
                  clear hbj
                  by_cases hlj : j < ins.length
                  · obtain ⟨u, hu⟩ : ∃ u, ins[j]? = some u := ⟨ins[j], List.getElem?_eq_getElem hlj⟩
                    obtain ⟨xb, xoff, rfl, hxc⟩ := HSX.out _ (HB6.out.step (HBV.out.step HBJ.out)) j u hu
                    have hxb : xb < wr.heap.size := World.block_lt_of_cell? _ _ hxc
                    have HFS : Hid (frB g ins s (j + 1) = (frB g ins s j || decide (s ∈ ndL g u))) := frB_succ hu
                    have KPU : Hid (∀ U, Bl wr U → U.cell? ⟨W.heap.size, 0, none⟩ = some (.slice sa g.1.length sc) ∧ U.cell? ⟨W.heap.size, 1, none⟩ = some (.slice (some ⟨ab, aoff, none⟩) g.2.length ac) ∧ U.cell? ⟨ub, 1, none⟩ = some (.slice (some ⟨xb, xoff, none⟩) ins.length c) ∧ U.cell? ⟨xb, xoff + j, none⟩ = some (.string (M.bs u)) ∧ U.cell? ⟨nb, noff + k, none⟩ = some (.string (M.bs s))) := fun U hU =>
                      ⟨by rw [Bl.cell hU p3]; exact p1, by rw [Bl.cell hU p3]; exact p2, by rw [Bl.cell hU r2]; exact r1, by rw [Bl.cell hU hxb]; exact hxc, by rw [Bl.cell hU hnb]; exact hnc⟩
                    have CNU : Hid (∀ U, Bl wr U → Calls Try.prog 17 #[.agg #[.slice sa g.1.length sc, .slice (some ⟨ab, aoff, none⟩) g.2.length ac], .string (M.bs u)] U fun e w' => ∃ a c, e = .returned (.slice a (ndL g u).length c) ∧ TA.TS w' a (ndL g u) ∧ Bl wr w') := fun U hU => by
                      refine (CN.out U u (HBWJ.out.step hU)).mono ?_
                      rintro e w' ⟨a, c', rfl, h1, h2⟩
                      exact ⟨a, c', rfl, h1, hU.step h2⟩
                    have hnu := ndL_len HGD.out u
                    have CIU : Hid (∀ (U : World) (a : Option Addr) (c' : Nat), TA.TS U a (ndL g u) → Bl wr U → Calls Try.prog 21 #[.slice a (ndL g u).length c', .string (M.bs s)] U fun e w' => e = .returned (.bool (decide (s ∈ ndL g u))) ∧ Bl wr w') := fun U a c' hts hU => by
                      refine (in_at (ndL g u) a c' s U (fun i t ht => ?_) (by unfold maxLen; omega)).mono ?_
                      · obtain ⟨b, off, h1, _, h2⟩ := hts i t ht; exact ⟨b, off, h1, h2⟩
                      · rintro e w' ⟨rfl, rfl⟩; exact ⟨rfl, hU⟩
                    have hjl : (j : Int) < (ins.length : Int) := by omega
                    have hkl : (k : Int) < (ND.length : Int) := by omega
                    clear hu hxc hnc p1 p2
                    obtain ⟨y, hy⟩ : ∃ y, frB g ins s j = y := ⟨_, rfl⟩
                    rw [hy] at HFS ⊢
                    clear hy
                    cases y
                    · go_wp2_with fail
                      refine wp_region_noPanic ?_
                      refine wp_region_held_drew (S := fun U => U.cell? ⟨W.heap.size, 0, none⟩ = some (.slice sa g.1.length sc) ∧ U.cell? ⟨W.heap.size, 1, none⟩ = some (.slice (some ⟨ab, aoff, none⟩) g.2.length ac) ∧ U.cell? ⟨ub, 1, none⟩ = some (.slice (some ⟨xb, xoff, none⟩) ins.length c) ∧ U.cell? ⟨xb, xoff + j, none⟩ = some (.string (M.bs u)) ∧ U.cell? ⟨nb, noff + k, none⟩ = some (.string (M.bs s))) (by kernel_rfl) (KPU.out _ ((Bl.refl wr).drewN 1)) (fun hHeld => ?_)
                      refine wpAnyH_take (i := 0) rfl (by kernel_rfl) (by kernel_rfl) (by kernel_rfl) (fun _ _ _ h => h) (yi_move (by kernel_rfl) rfl rfl) (by assumption) ?_
                      simp only [Act.put, List.getElem_toArray, List.getElem_cons_succ, List.getElem_cons_zero, List.setIfInBounds_toArray, List.set_cons_zero, List.set_cons_succ]
                      refine wpAnyH_take (i := 1) rfl (by kernel_rfl) (by kernel_rfl) (by kernel_rfl) (fun _ _ _ h => h) (yi_move (by kernel_rfl) rfl rfl) (by assumption) ?_
                      simp only [Act.put, List.getElem_toArray, List.getElem_cons_succ, List.getElem_cons_zero, List.setIfInBounds_toArray, List.set_cons_zero, List.set_cons_succ]
                      refine wpAnyH_take (i := 2) (v := ?_) rfl (by kernel_rfl) (by kernel_rfl) (by kernel_rfl) (fun _ _ _ h => h) (Or.inl ⟨by kernel_rfl, ?_⟩) (by assumption) ?_
                      rotate_left
                      · (intro w hSw; (try dsimp only at hSw); go_simp; (try with_reducible rfl))
                      simp only [Act.put, List.getElem_toArray, List.getElem_cons_succ, List.getElem_cons_zero, List.setIfInBounds_toArray, List.set_cons_zero, List.set_cons_succ]
                      refine wpAnyH_take (i := 3) (v := ?_) rfl (by kernel_rfl) (by kernel_rfl) (by kernel_rfl) (fun _ _ _ h => h) (Or.inl ⟨by kernel_rfl, ?_⟩) (by assumption) ?_
                      rotate_left
                      · (intro w hSw; (try dsimp only at hSw); go_simp; (try with_reducible rfl))
                      simp only [Act.put, List.getElem_toArray, List.getElem_cons_succ, List.getElem_cons_zero, List.setIfInBounds_toArray, List.set_cons_zero, List.set_cons_succ]
                      refine wpAnyH_take (i := 4) (v := ?_) rfl (by kernel_rfl) (by kernel_rfl) (by kernel_rfl) (fun _ _ _ h => h) (Or.inl ⟨by kernel_rfl, ?_⟩) (by assumption) ?_
                      rotate_left
                      · (intro w hSw; (try dsimp only at hSw); go_simp; (try with_reducible rfl))
                      simp only [Act.put, List.getElem_toArray, List.getElem_cons_succ, List.getElem_cons_zero, List.setIfInBounds_toArray, List.set_cons_zero, List.set_cons_succ]
                      refine wpAnyH_take (i := 5) rfl (by kernel_rfl) (by kernel_rfl) (by kernel_rfl) (fun _ _ _ h => h) (yi_move (by kernel_rfl) rfl rfl) (by assumption) ?_
                      simp only [Act.put, List.getElem_toArray, List.getElem_cons_succ, List.getElem_cons_zero, List.setIfInBounds_toArray, List.set_cons_zero, List.set_cons_succ]
                      refine wpAnyH_take (i := 6) (v := ?_) rfl (by kernel_rfl) (by kernel_rfl) (by kernel_rfl) (fun _ _ _ h => h) (Or.inl ⟨by kernel_rfl, ?_⟩) (by assumption) ?_
                      rotate_left
                      · (intro w hSw; (try dsimp only at hSw); go_simp; (try with_reducible rfl))
                      simp only [Act.put, List.getElem_toArray, List.getElem_cons_succ, List.getElem_cons_zero, List.setIfInBounds_toArray, List.set_cons_zero, List.set_cons_succ]
                      refine wpAnyH_take (i := 7) (v := ?_) rfl (by kernel_rfl) (by kernel_rfl) (by kernel_rfl) (fun _ _ _ h => h) (Or.inl ⟨by kernel_rfl, ?_⟩) (by assumption) ?_
                      rotate_left
                      · (intro w hSw; (try dsimp only at hSw); go_simp; (try with_reducible rfl))
                      simp only [Act.put, List.getElem_toArray, List.getElem_cons_succ, List.getElem_cons_zero, List.setIfInBounds_toArray, List.set_cons_zero, List.set_cons_succ]
                      refine wpAnyH_take (i := 9) rfl (by kernel_rfl) (by kernel_rfl) (by kernel_rfl) (fun _ _ _ h => h) (yi_move (by kernel_rfl) rfl rfl) (by assumption) ?_
                      simp only [Act.put, List.getElem_toArray, List.getElem_cons_succ, List.getElem_cons_zero, List.setIfInBounds_toArray, List.set_cons_zero, List.set_cons_succ]
                      refine wpAnyH_take (i := 10) rfl (by kernel_rfl) (by kernel_rfl) (by kernel_rfl) (fun _ _ _ h => h) (yi_move (by kernel_rfl) rfl rfl) (by assumption) ?_
                      simp only [Act.put, List.getElem_toArray, List.getElem_cons_succ, List.getElem_cons_zero, List.setIfInBounds_toArray, List.set_cons_zero, List.set_cons_succ]
                      refine wpAnyH_take (i := 11) (v := ?_) rfl (by kernel_rfl) (by kernel_rfl) (by kernel_rfl) (fun _ _ _ h => h) (Or.inl ⟨by kernel_rfl, ?_⟩) (by assumption) ?_
                      rotate_left
                      · (intro w hSw; (try dsimp only at hSw); go_simp; (try with_reducible rfl))
                      simp only [Act.put, List.getElem_toArray, List.getElem_cons_succ, List.getElem_cons_zero, List.setIfInBounds_toArray, List.set_cons_zero, List.set_cons_succ]
                      refine wpAnyH_take (i := 12) (v := ?_) rfl (by kernel_rfl) (by kernel_rfl) (by kernel_rfl) (fun _ _ _ h => h) (Or.inl ⟨by kernel_rfl, ?_⟩) (by assumption) ?_
                      rotate_left
                      · (intro w hSw; (try dsimp only at hSw); go_simp; (try with_reducible rfl))
                      simp only [Act.put, List.getElem_toArray, List.getElem_cons_succ, List.getElem_cons_zero, List.setIfInBounds_toArray, List.set_cons_zero, List.set_cons_succ]
                      refine wpAnyH_ready (rs := [8]) (by kernel_rfl) (by simp) ?_
                      refine AllReadyH.cons (o := _) rfl (fun K hK => ?_) AllReadyH.nil
                      go_simp
                      go_at_call 17; refine (CNU.out _ ((Bl.refl wr).drewN 1)).mono ?_; rintro e w' ⟨ya, yc, rfl, HYS, HB13⟩
                      refine hK.out _ _ (KPU.out _ HB13) (fun hHeld => ?_)
                      clear hK K
                      (try simp only [Act.put, List.getElem_toArray, List.getElem_cons_succ, List.getElem_cons_zero, List.setIfInBounds_toArray, List.set_cons_zero, List.set_cons_succ])
                      refine wpAnyH_ready (rs := [13]) (by kernel_rfl) (by simp) ?_
                      refine AllReadyH.cons (o := _) rfl (fun K hK => ?_) AllReadyH.nil
                      go_simp
                      go_at_call 21; refine (CIU.out _ _ _ HYS HB13).mono ?_; rintro e w' ⟨rfl, HB14⟩
                      refine hK.out _ _ (KPU.out _ HB14) (fun hHeld => ?_)
                      clear hK K
                      (try simp only [Act.put, List.getElem_toArray, List.getElem_cons_succ, List.getElem_cons_zero, List.setIfInBounds_toArray, List.set_cons_zero, List.set_cons_succ])
                      refine wpAnyH_take (i := 14) (v := ?_) rfl (by kernel_rfl) (by kernel_rfl) (by kernel_rfl) (fun _ _ _ h => h) (Or.inl ⟨by kernel_rfl, ?_⟩) (by assumption) ?_
                      rotate_left
                      · (intro w hSw; (try dsimp only at hSw); go_simp; (try with_reducible rfl))
                      simp only [Act.put, List.getElem_toArray, List.getElem_cons_succ, List.getElem_cons_zero, List.setIfInBounds_toArray, List.set_cons_zero, List.set_cons_succ]
                      refine wpAnyH_take (i := 15) rfl (by kernel_rfl) (by kernel_rfl) (by kernel_rfl) (fun _ _ _ h => h) (yi_assign (by kernel_rfl) rfl rfl) (by assumption) ?_
                      simp only [Act.put, List.getElem_toArray, List.getElem_cons_succ, List.getElem_cons_zero, List.setIfInBounds_toArray, List.set_cons_zero, List.set_cons_succ]
                      refine wpAnyH_done (by kernel_rfl) ?_ _
                      refine NoPanic.normal ?_
                      go_wp2_with fail
                      go_roundw
                      case rel => exact ⟨j + 1, by omega, by go_num, by rw [HFS.out]; rfl, HBJ.out.step (HB14)⟩
                      case measure => simp [intOf]; omega
                    · go_wp2_with fail
                      refine wp_region_noPanic ?_
                      refine wp_region_held_drew (S := fun U => U.cell? ⟨W.heap.size, 0, none⟩ = some (.slice sa g.1.length sc) ∧ U.cell? ⟨W.heap.size, 1, none⟩ = some (.slice (some ⟨ab, aoff, none⟩) g.2.length ac) ∧ U.cell? ⟨ub, 1, none⟩ = some (.slice (some ⟨xb, xoff, none⟩) ins.length c) ∧ U.cell? ⟨xb, xoff + j, none⟩ = some (.string (M.bs u)) ∧ U.cell? ⟨nb, noff + k, none⟩ = some (.string (M.bs s))) (by kernel_rfl) (KPU.out _ ((Bl.refl wr).drewN 1)) (fun hHeld => ?_)
                      refine wpAnyH_take (i := 0) rfl (by kernel_rfl) (by kernel_rfl) (by kernel_rfl) (fun _ _ _ h => h) (yi_move (by kernel_rfl) rfl rfl) (by assumption) ?_
                      simp only [Act.put, List.getElem_toArray, List.getElem_cons_succ, List.getElem_cons_zero, List.setIfInBounds_toArray, List.set_cons_zero, List.set_cons_succ]
                      refine wpAnyH_take (i := 1) rfl (by kernel_rfl) (by kernel_rfl) (by kernel_rfl) (fun _ _ _ h => h) (yi_move (by kernel_rfl) rfl rfl) (by assumption) ?_
                      simp only [Act.put, List.getElem_toArray, List.getElem_cons_succ, List.getElem_cons_zero, List.setIfInBounds_toArray, List.set_cons_zero, List.set_cons_succ]
                      refine wpAnyH_take (i := 2) (v := undef) rfl (by kernel_rfl) (by kernel_rfl) (by kernel_rfl) (fun _ _ _ h => h) (Or.inr ⟨by kernel_rfl, rfl⟩) (by assumption) ?_
                      simp only [Act.put, List.getElem_toArray, List.getElem_cons_succ, List.getElem_cons_zero, List.setIfInBounds_toArray, List.set_cons_zero, List.set_cons_succ]
                      refine wpAnyH_take (i := 3) (v := undef) rfl (by kernel_rfl) (by kernel_rfl) (by kernel_rfl) (fun _ _ _ h => h) (Or.inr ⟨by kernel_rfl, rfl⟩) (by assumption) ?_
                      simp only [Act.put, List.getElem_toArray, List.getElem_cons_succ, List.getElem_cons_zero, List.setIfInBounds_toArray, List.set_cons_zero, List.set_cons_succ]
                      refine wpAnyH_take (i := 4) (v := undef) rfl (by kernel_rfl) (by kernel_rfl) (by kernel_rfl) (fun _ _ _ h => h) (Or.inr ⟨by kernel_rfl, rfl⟩) (by assumption) ?_
                      simp only [Act.put, List.getElem_toArray, List.getElem_cons_succ, List.getElem_cons_zero, List.setIfInBounds_toArray, List.set_cons_zero, List.set_cons_succ]
                      refine wpAnyH_take (i := 5) (v := undef) rfl (by kernel_rfl) (by kernel_rfl) (by kernel_rfl) (fun _ _ _ h => h) (Or.inr ⟨by kernel_rfl, rfl⟩) (by assumption) ?_
                      simp only [Act.put, List.getElem_toArray, List.getElem_cons_succ, List.getElem_cons_zero, List.setIfInBounds_toArray, List.set_cons_zero, List.set_cons_succ]
                      refine wpAnyH_take (i := 6) (v := undef) rfl (by kernel_rfl) (by kernel_rfl) (by kernel_rfl) (fun _ _ _ h => h) (Or.inr ⟨by kernel_rfl, rfl⟩) (by assumption) ?_
                      simp only [Act.put, List.getElem_toArray, List.getElem_cons_succ, List.getElem_cons_zero, List.setIfInBounds_toArray, List.set_cons_zero, List.set_cons_succ]
                      refine wpAnyH_take (i := 7) (v := undef) rfl (by kernel_rfl) (by kernel_rfl) (by kernel_rfl) (fun _ _ _ h => h) (Or.inr ⟨by kernel_rfl, rfl⟩) (by assumption) ?_
                      simp only [Act.put, List.getElem_toArray, List.getElem_cons_succ, List.getElem_cons_zero, List.setIfInBounds_toArray, List.set_cons_zero, List.set_cons_succ]
                      refine wpAnyH_take (i := 8) (v := undef) rfl (by kernel_rfl) (by kernel_rfl) (by kernel_rfl) (fun _ _ _ h => h) (Or.inr ⟨by kernel_rfl, rfl⟩) (by assumption) ?_
                      simp only [Act.put, List.getElem_toArray, List.getElem_cons_succ, List.getElem_cons_zero, List.setIfInBounds_toArray, List.set_cons_zero, List.set_cons_succ]
                      refine wpAnyH_take (i := 9) (v := undef) rfl (by kernel_rfl) (by kernel_rfl) (by kernel_rfl) (fun _ _ _ h => h) (Or.inr ⟨by kernel_rfl, rfl⟩) (by assumption) ?_
                      simp only [Act.put, List.getElem_toArray, List.getElem_cons_succ, List.getElem_cons_zero, List.setIfInBounds_toArray, List.set_cons_zero, List.set_cons_succ]
                      refine wpAnyH_take (i := 10) (v := undef) rfl (by kernel_rfl) (by kernel_rfl) (by kernel_rfl) (fun _ _ _ h => h) (Or.inr ⟨by kernel_rfl, rfl⟩) (by assumption) ?_
                      simp only [Act.put, List.getElem_toArray, List.getElem_cons_succ, List.getElem_cons_zero, List.setIfInBounds_toArray, List.set_cons_zero, List.set_cons_succ]
                      refine wpAnyH_take (i := 11) (v := undef) rfl (by kernel_rfl) (by kernel_rfl) (by kernel_rfl) (fun _ _ _ h => h) (Or.inr ⟨by kernel_rfl, rfl⟩) (by assumption) ?_
                      simp only [Act.put, List.getElem_toArray, List.getElem_cons_succ, List.getElem_cons_zero, List.setIfInBounds_toArray, List.set_cons_zero, List.set_cons_succ]
                      refine wpAnyH_take (i := 12) (v := undef) rfl (by kernel_rfl) (by kernel_rfl) (by kernel_rfl) (fun _ _ _ h => h) (Or.inr ⟨by kernel_rfl, rfl⟩) (by assumption) ?_
                      simp only [Act.put, List.getElem_toArray, List.getElem_cons_succ, List.getElem_cons_zero, List.setIfInBounds_toArray, List.set_cons_zero, List.set_cons_succ]
                      refine wpAnyH_take (i := 13) (v := undef) rfl (by kernel_rfl) (by kernel_rfl) (by kernel_rfl) (fun _ _ _ h => h) (Or.inr ⟨by kernel_rfl, rfl⟩) (by assumption) ?_
                      simp only [Act.put, List.getElem_toArray, List.getElem_cons_succ, List.getElem_cons_zero, List.setIfInBounds_toArray, List.set_cons_zero, List.set_cons_succ]
                      refine wpAnyH_take (i := 14) (v := ?_) rfl (by kernel_rfl) (by kernel_rfl) (by kernel_rfl) (fun _ _ _ h => h) (Or.inl ⟨by kernel_rfl, ?_⟩) (by assumption) ?_
                      rotate_left
                      · (intro w hSw; (try dsimp only at hSw); go_simp; (try with_reducible rfl))
                      simp only [Act.put, List.getElem_toArray, List.getElem_cons_succ, List.getElem_cons_zero, List.setIfInBounds_toArray, List.set_cons_zero, List.set_cons_succ]
                      refine wpAnyH_take (i := 15) rfl (by kernel_rfl) (by kernel_rfl) (by kernel_rfl) (fun _ _ _ h => h) (yi_assign (by kernel_rfl) rfl rfl) (by assumption) ?_
                      simp only [Act.put, List.getElem_toArray, List.getElem_cons_succ, List.getElem_cons_zero, List.setIfInBounds_toArray, List.set_cons_zero, List.set_cons_succ]
                      refine wpAnyH_done (by kernel_rfl) ?_ _
                      refine NoPanic.normal ?_
                      go_wp2_with fail
                      go_roundw
                      case rel => exact ⟨j + 1, by omega, by go_num, by rw [HFS.out]; rfl, HBJ.out.step (((Bl.refl wr).drewN 1))⟩
                      case measure => simp [intOf]; omega
                  · obtain rfl : j = ins.length := by omega
                    rw [HFRS.out]
                    go_wp2_with fail
                    go_roundw
                    case rel => exact ⟨k + 1, by omega, by go_num, by rw [HIS.out]; rfl, HBV.out.step HBJ.out⟩
                    case measure => simp [intOf]; omega
              · go_wp2_with fail
                go_quiet (fail)
                have HBV : Hid (Bl w6 (wr.drewN nq)) := HBk.out.drewN nq
                have v1 : (wr.drewN nq).cell? ⟨ub, 1, none⟩ = some (.slice x ins.length c) := r1
                have v2 : (wr.drewN nq).cell? ⟨nb, noff + k, none⟩ = some (.string (M.bs s)) := hnc
                have CI19 : Hid (∀ m, Calls Try.prog 21 #[.slice x ins.length c, .string (M.bs s)] ((wr.drewN nq).drewN m) fun e w' => e = .returned (.bool (decide (s ∈ ins))) ∧ w' = (wr.drewN nq).drewN m) := fun m =>
                  in_at ins x c s _ (HSX.out _ (HB6.out.step ((HBk.out.drewN nq).drewN m))) (by unfold maxLen; omega)
                have HBN : Hid (nb < (wr.drewN nq).heap.size ∧ ub < (wr.drewN nq).heap.size) := ⟨hnb, r2⟩
                generalize wr.drewN nq = V at *
                go_wp2_with fail
                go_quiet ((go_at_call 21; exact Calls.quiet_of_same (CI19.out _)))
                go_wp2_with fail
                clear CI19 r0 r1 r2 hnc hnb p1 p2 p3 p4 v1 v2
                go_loopw [12, 13] (fun u12 u13 wr => ∃ j : Nat, j ≤ ins.length ∧ u13 = .int .i64 j ∧ u12 = .bool (frB g ins s j) ∧ Bl V wr) (fun _ u13 _ => ins.length - (intOf u13).toNat)
                case atStart => exact ⟨0, Nat.zero_le _, rfl, by rw [frB_zero], (Bl.refl V).drewN _⟩
                case round =>
                  obtain ⟨j, hj0, rfl, rfl, hbj⟩ := hrel
                  have HBJ : Hid (Bl V wr) := hbj
                  have HBWJ : Hid (Bl (W.alloc BX) wr) := HBW6.out.step (HBV.out.step hbj)
                  obtain ⟨p1, p2, p3, p4⟩ := HC.out _ HBWJ.out
                  have r1 : wr.cell? ⟨ub, 1, none⟩ = some (.slice x ins.length c) := by rw [Bl.cell (HBV.out.step hbj) q2]; exact q1
                  have r2 : ub < wr.heap.size := Nat.lt_of_lt_of_le HBN.out.2 (Below.size hbj)
                  obtain ⟨nb', noff', en', hnb, hnc⟩ := (TA.TS.below HTS.out (HBV.out.step hbj)) k s HSK.out
                  simp only [Option.some.injEq, Addr.mk.injEq, and_true] at en'
                  obtain ⟨rfl, rfl⟩ := en'
                  clear hbj
                  by_cases hlj : j < ins.length
                  · obtain ⟨u, hu⟩ : ∃ u, ins[j]? = some u := ⟨ins[j], List.getElem?_eq_getElem hlj⟩
                    obtain ⟨xb, xoff, rfl, hxc⟩ := HSX.out _ (HB6.out.step (HBV.out.step HBJ.out)) j u hu
                    have hxb : xb < wr.heap.size := World.block_lt_of_cell? _ _ hxc
                    have HFS : Hid (frB g ins s (j + 1) = (frB g ins s j || decide (s ∈ ndL g u))) := frB_succ hu
                    have KPU : Hid (∀ U, Bl wr U → U.cell? ⟨W.heap.size, 0, none⟩ = some (.slice sa g.1.length sc) ∧ U.cell? ⟨W.heap.size, 1, none⟩ = some (.slice (some ⟨ab, aoff, none⟩) g.2.length ac) ∧ U.cell? ⟨ub, 1, none⟩ = some (.slice (some ⟨xb, xoff, none⟩) ins.length c) ∧ U.cell? ⟨xb, xoff + j, none⟩ = some (.string (M.bs u)) ∧ U.cell? ⟨nb, noff + k, none⟩ = some (.string (M.bs s))) := fun U hU =>
                      ⟨by rw [Bl.cell hU p3]; exact p1, by rw [Bl.cell hU p3]; exact p2, by rw [Bl.cell hU r2]; exact r1, by rw [Bl.cell hU hxb]; exact hxc, by rw [Bl.cell hU hnb]; exact hnc⟩
                    have CNU : Hid (∀ U, Bl wr U → Calls Try.prog 17 #[.agg #[.slice sa g.1.length sc, .slice (some ⟨ab, aoff, none⟩) g.2.length ac], .string (M.bs u)] U fun e w' => ∃ a c, e = .returned (.slice a (ndL g u).length c) ∧ TA.TS w' a (ndL g u) ∧ Bl wr w') := fun U hU => by
                      refine (CN.out U u (HBWJ.out.step hU)).mono ?_
                      rintro e w' ⟨a, c', rfl, h1, h2⟩
                      exact ⟨a, c', rfl, h1, hU.step h2⟩
                    have hnu := ndL_len HGD.out u
                    have CIU : Hid (∀ (U : World) (a : Option Addr) (c' : Nat), TA.TS U a (ndL g u) → Bl wr U → Calls Try.prog 21 #[.slice a (ndL g u).length c', .string (M.bs s)] U fun e w' => e = .returned (.bool (decide (s ∈ ndL g u))) ∧ Bl wr w') := fun U a c' hts hU => by
                      refine (in_at (ndL g u) a c' s U (fun i t ht => ?_) (by unfold maxLen; omega)).mono ?_
                      · obtain ⟨b, off, h1, _, h2⟩ := hts i t ht; exact ⟨b, off, h1, h2⟩
                      · rintro e w' ⟨rfl, rfl⟩; exact ⟨rfl, hU⟩
                    have hjl : (j : Int) < (ins.length : Int) := by omega
                    have hkl : (k : Int) < (ND.length : Int) := by omega
                    clear hu hxc hnc p1 p2
                    obtain ⟨y, hy⟩ : ∃ y, frB g ins s j = y := ⟨_, rfl⟩
                    rw [hy] at HFS ⊢
                    clear hy
                    cases y
                    · go_wp2_with fail
                      refine wp_region_noPanic ?_
                      refine wp_region_held_drew (S := fun U => U.cell? ⟨W.heap.size, 0, none⟩ = some (.slice sa g.1.length sc) ∧ U.cell? ⟨W.heap.size, 1, none⟩ = some (.slice (some ⟨ab, aoff, none⟩) g.2.length ac) ∧ U.cell? ⟨ub, 1, none⟩ = some (.slice (some ⟨xb, xoff, none⟩) ins.length c) ∧ U.cell? ⟨xb, xoff + j, none⟩ = some (.string (M.bs u)) ∧ U.cell? ⟨nb, noff + k, none⟩ = some (.string (M.bs s))) (by kernel_rfl) (KPU.out _ ((Bl.refl wr).drewN 1)) (fun hHeld => ?_)
                      refine wpAnyH_take (i := 0) rfl (by kernel_rfl) (by kernel_rfl) (by kernel_rfl) (fun _ _ _ h => h) (yi_move (by kernel_rfl) rfl rfl) (by assumption) ?_
                      simp only [Act.put, List.getElem_toArray, List.getElem_cons_succ, List.getElem_cons_zero, List.setIfInBounds_toArray, List.set_cons_zero, List.set_cons_succ]
                      refine wpAnyH_take (i := 1) rfl (by kernel_rfl) (by kernel_rfl) (by kernel_rfl) (fun _ _ _ h => h) (yi_move (by kernel_rfl) rfl rfl) (by assumption) ?_
                      simp only [Act.put, List.getElem_toArray, List.getElem_cons_succ, List.getElem_cons_zero, List.setIfInBounds_toArray, List.set_cons_zero, List.set_cons_succ]
                      refine wpAnyH_take (i := 2) (v := ?_) rfl (by kernel_rfl) (by kernel_rfl) (by kernel_rfl) (fun _ _ _ h => h) (Or.inl ⟨by kernel_rfl, ?_⟩) (by assumption) ?_
                      rotate_left
                      · (intro w hSw; (try dsimp only at hSw); go_simp; (try with_reducible rfl))
                      simp only [Act.put, List.getElem_toArray, List.getElem_cons_succ, List.getElem_cons_zero, List.setIfInBounds_toArray, List.set_cons_zero, List.set_cons_succ]
                      refine wpAnyH_take (i := 3) (v := ?_) rfl (by kernel_rfl) (by kernel_rfl) (by kernel_rfl) (fun _ _ _ h => h) (Or.inl ⟨by kernel_rfl, ?_⟩) (by assumption) ?_
                      rotate_left
                      · (intro w hSw; (try dsimp only at hSw); go_simp; (try with_reducible rfl))
                      simp only [Act.put, List.getElem_toArray, List.getElem_cons_succ, List.getElem_cons_zero, List.setIfInBounds_toArray, List.set_cons_zero, List.set_cons_succ]
                      refine wpAnyH_take (i := 4) (v := ?_) rfl (by kernel_rfl) (by kernel_rfl) (by kernel_rfl) (fun _ _ _ h => h) (Or.inl ⟨by kernel_rfl, ?_⟩) (by assumption) ?_
                      rotate_left
                      · (intro w hSw; (try dsimp only at hSw); go_simp; (try with_reducible rfl))
                      simp only [Act.put, List.getElem_toArray, List.getElem_cons_succ, List.getElem_cons_zero, List.setIfInBounds_toArray, List.set_cons_zero, List.set_cons_succ]
                      refine wpAnyH_take (i := 5) rfl (by kernel_rfl) (by kernel_rfl) (by kernel_rfl) (fun _ _ _ h => h) (yi_move (by kernel_rfl) rfl rfl) (by assumption) ?_
                      simp only [Act.put, List.getElem_toArray, List.getElem_cons_succ, List.getElem_cons_zero, List.setIfInBounds_toArray, List.set_cons_zero, List.set_cons_succ]
                      refine wpAnyH_take (i := 6) (v := ?_) rfl (by kernel_rfl) (by kernel_rfl) (by kernel_rfl) (fun _ _ _ h => h) (Or.inl ⟨by kernel_rfl, ?_⟩) (by assumption) ?_
                      rotate_left
                      · (intro w hSw; (try dsimp only at hSw); go_simp; (try with_reducible rfl))
                      simp only [Act.put, List.getElem_toArray, List.getElem_cons_succ, List.getElem_cons_zero, List.setIfInBounds_toArray, List.set_cons_zero, List.set_cons_succ]
                      refine wpAnyH_take (i := 7) (v := ?_) rfl (by kernel_rfl) (by kernel_rfl) (by kernel_rfl) (fun _ _ _ h => h) (Or.inl ⟨by kernel_rfl, ?_⟩) (by assumption) ?_
                      rotate_left
                      · (intro w hSw; (try dsimp only at hSw); go_simp; (try with_reducible rfl))
                      simp only [Act.put, List.getElem_toArray, List.getElem_cons_succ, List.getElem_cons_zero, List.setIfInBounds_toArray, List.set_cons_zero, List.set_cons_succ]
                      refine wpAnyH_take (i := 9) rfl (by kernel_rfl) (by kernel_rfl) (by kernel_rfl) (fun _ _ _ h => h) (yi_move (by kernel_rfl) rfl rfl) (by assumption) ?_
                      simp only [Act.put, List.getElem_toArray, List.getElem_cons_succ, List.getElem_cons_zero, List.setIfInBounds_toArray, List.set_cons_zero, List.set_cons_succ]
                      refine wpAnyH_take (i := 10) rfl (by kernel_rfl) (by kernel_rfl) (by kernel_rfl) (fun _ _ _ h => h) (yi_move (by kernel_rfl) rfl rfl) (by assumption) ?_
                      simp only [Act.put, List.getElem_toArray, List.getElem_cons_succ, List.getElem_cons_zero, List.setIfInBounds_toArray, List.set_cons_zero, List.set_cons_succ]
                      refine wpAnyH_take (i := 11) (v := ?_) rfl (by kernel_rfl) (by kernel_rfl) (by kernel_rfl) (fun _ _ _ h => h) (Or.inl ⟨by kernel_rfl, ?_⟩) (by assumption) ?_
                      rotate_left
                      · (intro w hSw; (try dsimp only at hSw); go_simp; (try with_reducible rfl))
                      simp only [Act.put, List.getElem_toArray, List.getElem_cons_succ, List.getElem_cons_zero, List.setIfInBounds_toArray, List.set_cons_zero, List.set_cons_succ]
                      refine wpAnyH_take (i := 12) (v := ?_) rfl (by kernel_rfl) (by kernel_rfl) (by kernel_rfl) (fun _ _ _ h => h) (Or.inl ⟨by kernel_rfl, ?_⟩) (by assumption) ?_
                      rotate_left
                      · (intro w hSw; (try dsimp only at hSw); go_simp; (try with_reducible rfl))
                      simp only [Act.put, List.getElem_toArray, List.getElem_cons_succ, List.getElem_cons_zero, List.setIfInBounds_toArray, List.set_cons_zero, List.set_cons_succ]
                      refine wpAnyH_ready (rs := [8]) (by kernel_rfl) (by simp) ?_
                      refine AllReadyH.cons (o := _) rfl (fun K hK => ?_) AllReadyH.nil
                      go_simp
                      go_at_call 17; refine (CNU.out _ ((Bl.refl wr).drewN 1)).mono ?_; rintro e w' ⟨ya, yc, rfl, HYS, HB13⟩
                      refine hK.out _ _ (KPU.out _ HB13) (fun hHeld => ?_)
                      clear hK K
                      (try simp only [Act.put, List.getElem_toArray, List.getElem_cons_succ, List.getElem_cons_zero, List.setIfInBounds_toArray, List.set_cons_zero, List.set_cons_succ])
                      refine wpAnyH_ready (rs := [13]) (by kernel_rfl) (by simp) ?_
                      refine AllReadyH.cons (o := _) rfl (fun K hK => ?_) AllReadyH.nil
                      go_simp
                      go_at_call 21; refine (CIU.out _ _ _ HYS HB13).mono ?_; rintro e w' ⟨rfl, HB14⟩
                      refine hK.out _ _ (KPU.out _ HB14) (fun hHeld => ?_)
                      clear hK K
                      (try simp only [Act.put, List.getElem_toArray, List.getElem_cons_succ, List.getElem_cons_zero, List.setIfInBounds_toArray, List.set_cons_zero, List.set_cons_succ])
                      refine wpAnyH_take (i := 14) (v := ?_) rfl (by kernel_rfl) (by kernel_rfl) (by kernel_rfl) (fun _ _ _ h => h) (Or.inl ⟨by kernel_rfl, ?_⟩) (by assumption) ?_
                      rotate_left
                      · (intro w hSw; (try dsimp only at hSw); go_simp; (try with_reducible rfl))
                      simp only [Act.put, List.getElem_toArray, List.getElem_cons_succ, List.getElem_cons_zero, List.setIfInBounds_toArray, List.set_cons_zero, List.set_cons_succ]
                      refine wpAnyH_take (i := 15) rfl (by kernel_rfl) (by kernel_rfl) (by kernel_rfl) (fun _ _ _ h => h) (yi_assign (by kernel_rfl) rfl rfl) (by assumption) ?_
                      simp only [Act.put, List.getElem_toArray, List.getElem_cons_succ, List.getElem_cons_zero, List.setIfInBounds_toArray, List.set_cons_zero, List.set_cons_succ]
                      refine wpAnyH_done (by kernel_rfl) ?_ _
                      refine NoPanic.normal ?_
                      go_wp2_with fail
                      go_roundw
                      case rel => exact ⟨j + 1, by omega, by go_num, by rw [HFS.out]; rfl, HBJ.out.step (HB14)⟩
                      case measure => simp [intOf]; omega
                    · go_wp2_with fail
                      refine wp_region_noPanic ?_
                      refine wp_region_held_drew (S := fun U => U.cell? ⟨W.heap.size, 0, none⟩ = some (.slice sa g.1.length sc) ∧ U.cell? ⟨W.heap.size, 1, none⟩ = some (.slice (some ⟨ab, aoff, none⟩) g.2.length ac) ∧ U.cell? ⟨ub, 1, none⟩ = some (.slice (some ⟨xb, xoff, none⟩) ins.length c) ∧ U.cell? ⟨xb, xoff + j, none⟩ = some (.string (M.bs u)) ∧ U.cell? ⟨nb, noff + k, none⟩ = some (.string (M.bs s))) (by kernel_rfl) (KPU.out _ ((Bl.refl wr).drewN 1)) (fun hHeld => ?_)
                      refine wpAnyH_take (i := 0) rfl (by kernel_rfl) (by kernel_rfl) (by kernel_rfl) (fun _ _ _ h => h) (yi_move (by kernel_rfl) rfl rfl) (by assumption) ?_
                      simp only [Act.put, List.getElem_toArray, List.getElem_cons_succ, List.getElem_cons_zero, List.setIfInBounds_toArray, List.set_cons_zero, List.set_cons_succ]
                      refine wpAnyH_take (i := 1) rfl (by kernel_rfl) (by kernel_rfl) (by kernel_rfl) (fun _ _ _ h => h) (yi_move (by kernel_rfl) rfl rfl) (by assumption) ?_
                      simp only [Act.put, List.getElem_toArray, List.getElem_cons_succ, List.getElem_cons_zero, List.setIfInBounds_toArray, List.set_cons_zero, List.set_cons_succ]
                      refine wpAnyH_take (i := 2) (v := undef) rfl (by kernel_rfl) (by kernel_rfl) (by kernel_rfl) (fun _ _ _ h => h) (Or.inr ⟨by kernel_rfl, rfl⟩) (by assumption) ?_
                      simp only [Act.put, List.getElem_toArray, List.getElem_cons_succ, List.getElem_cons_zero, List.setIfInBounds_toArray, List.set_cons_zero, List.set_cons_succ]
                      refine wpAnyH_take (i := 3) (v := undef) rfl (by kernel_rfl) (by kernel_rfl) (by kernel_rfl) (fun _ _ _ h => h) (Or.inr ⟨by kernel_rfl, rfl⟩) (by assumption) ?_
                      simp only [Act.put, List.getElem_toArray, List.getElem_cons_succ, List.getElem_cons_zero, List.setIfInBounds_toArray, List.set_cons_zero, List.set_cons_succ]
                      refine wpAnyH_take (i := 4) (v := undef) rfl (by kernel_rfl) (by kernel_rfl) (by kernel_rfl) (fun _ _ _ h => h) (Or.inr ⟨by kernel_rfl, rfl⟩) (by assumption) ?_
                      simp only [Act.put, List.getElem_toArray, List.getElem_cons_succ, List.getElem_cons_zero, List.setIfInBounds_toArray, List.set_cons_zero, List.set_cons_succ]
                      refine wpAnyH_take (i := 5) (v := undef) rfl (by kernel_rfl) (by kernel_rfl) (by kernel_rfl) (fun _ _ _ h => h) (Or.inr ⟨by kernel_rfl, rfl⟩) (by assumption) ?_
                      simp only [Act.put, List.getElem_toArray, List.getElem_cons_succ, List.getElem_cons_zero, List.setIfInBounds_toArray, List.set_cons_zero, List.set_cons_succ]
                      refine wpAnyH_take (i := 6) (v := undef) rfl (by kernel_rfl) (by kernel_rfl) (by kernel_rfl) (fun _ _ _ h => h) (Or.inr ⟨by kernel_rfl, rfl⟩) (by assumption) ?_
                      simp only [Act.put, List.getElem_toArray, List.getElem_cons_succ, List.getElem_cons_zero, List.setIfInBounds_toArray, List.set_cons_zero, List.set_cons_succ]
                      refine wpAnyH_take (i := 7) (v := undef) rfl (by kernel_rfl) (by kernel_rfl) (by kernel_rfl) (fun _ _ _ h => h) (Or.inr ⟨by kernel_rfl, rfl⟩) (by assumption) ?_
                      simp only [Act.put, List.getElem_toArray, List.getElem_cons_succ, List.getElem_cons_zero, List.setIfInBounds_toArray, List.set_cons_zero, List.set_cons_succ]
                      refine wpAnyH_take (i := 8) (v := undef) rfl (by kernel_rfl) (by kernel_rfl) (by kernel_rfl) (fun _ _ _ h => h) (Or.inr ⟨by kernel_rfl, rfl⟩) (by assumption) ?_
                      simp only [Act.put, List.getElem_toArray, List.getElem_cons_succ, List.getElem_cons_zero, List.setIfInBounds_toArray, List.set_cons_zero, List.set_cons_succ]
                      refine wpAnyH_take (i := 9) (v := undef) rfl (by kernel_rfl) (by kernel_rfl) (by kernel_rfl) (fun _ _ _ h => h) (Or.inr ⟨by kernel_rfl, rfl⟩) (by assumption) ?_
                      simp only [Act.put, List.getElem_toArray, List.getElem_cons_succ, List.getElem_cons_zero, List.setIfInBounds_toArray, List.set_cons_zero, List.set_cons_succ]
                      refine wpAnyH_take (i := 10) (v := undef) rfl (by kernel_rfl) (by kernel_rfl) (by kernel_rfl) (fun _ _ _ h => h) (Or.inr ⟨by kernel_rfl, rfl⟩) (by assumption) ?_
                      simp only [Act.put, List.getElem_toArray, List.getElem_cons_succ, List.getElem_cons_zero, List.setIfInBounds_toArray, List.set_cons_zero, List.set_cons_succ]
                      refine wpAnyH_take (i := 11) (v := undef) rfl (by kernel_rfl) (by kernel_rfl) (by kernel_rfl) (fun _ _ _ h => h) (Or.inr ⟨by kernel_rfl, rfl⟩) (by assumption) ?_
                      simp only [Act.put, List.getElem_toArray, List.getElem_cons_succ, List.getElem_cons_zero, List.setIfInBounds_toArray, List.set_cons_zero, List.set_cons_succ]
                      refine wpAnyH_take (i := 12) (v := undef) rfl (by kernel_rfl) (by kernel_rfl) (by kernel_rfl) (fun _ _ _ h => h) (Or.inr ⟨by kernel_rfl, rfl⟩) (by assumption) ?_
                      simp only [Act.put, List.getElem_toArray, List.getElem_cons_succ, List.getElem_cons_zero, List.setIfInBounds_toArray, List.set_cons_zero, List.set_cons_succ]
                      refine wpAnyH_take (i := 13) (v := undef) rfl (by kernel_rfl) (by kernel_rfl) (by kernel_rfl) (fun _ _ _ h => h) (Or.inr ⟨by kernel_rfl, rfl⟩) (by assumption) ?_
                      simp only [Act.put, List.getElem_toArray, List.getElem_cons_succ, List.getElem_cons_zero, List.setIfInBounds_toArray, List.set_cons_zero, List.set_cons_succ]
                      refine wpAnyH_take (i := 14) (v := ?_) rfl (by kernel_rfl) (by kernel_rfl) (by kernel_rfl) (fun _ _ _ h => h) (Or.inl ⟨by kernel_rfl, ?_⟩) (by assumption) ?_
                      rotate_left
                      · (intro w hSw; (try dsimp only at hSw); go_simp; (try with_reducible rfl))
                      simp only [Act.put, List.getElem_toArray, List.getElem_cons_succ, List.getElem_cons_zero, List.setIfInBounds_toArray, List.set_cons_zero, List.set_cons_succ]
                      refine wpAnyH_take (i := 15) rfl (by kernel_rfl) (by kernel_rfl) (by kernel_rfl) (fun _ _ _ h => h) (yi_assign (by kernel_rfl) rfl rfl) (by assumption) ?_
                      simp only [Act.put, List.getElem_toArray, List.getElem_cons_succ, List.getElem_cons_zero, List.setIfInBounds_toArray, List.set_cons_zero, List.set_cons_succ]
                      refine wpAnyH_done (by kernel_rfl) ?_ _
                      refine NoPanic.normal ?_
                      go_wp2_with fail
                      go_roundw
                      case rel => exact ⟨j + 1, by omega, by go_num, by rw [HFS.out]; rfl, HBJ.out.step (((Bl.refl wr).drewN 1))⟩
                      case measure => simp [intOf]; omega
                  · obtain rfl : j = ins.length := by omega
                    rw [HFRS.out]
                    go_wp2_with fail
                    go_roundw
                    case rel => exact ⟨k + 1, by omega, by go_num, by rw [HIS.out]; rfl, HBV.out.step HBJ.out⟩
                    case measure => simp [intOf]; omega
          · obtain rfl : k = ND.length := by omega
            have HXQ : Hid (isB xs ND n ND.length = q i) := HQ.out.symm
            have CI4 : Hid (∀ s, Calls Try.prog 21 #[.slice na ND.length nc, .string (M.bs s)] wr fun e w' => e = .returned (.bool (decide (s ∈ ND))) ∧ w' = wr) := fun s =>
              in_at ND na nc s wr (fun i t ht => by obtain ⟨b, off, h1, _, h2⟩ := (TA.TS.below HTS.out HBk.out) i t ht; exact ⟨b, off, h1, h2⟩) (by unfold maxLen; omega)
            have CI5 : Hid (Calls Try.prog 21 #[.slice na ND.length nc, .string (M.bs n)] wr fun e w' => e = .returned (.bool false) ∧ w' = wr) := by
              have := CI4.out n
              rw [decide_eq_false HSELF.out] at this; exact this
            have HSW : Hid (SA wr x ins) := HSX.out _ (HB6.out.step HBk.out)
            have HIW : Hid (IA wr la (plcs q g.2.length)) := IA.bl HII.out (HB.out.step (HB6.out.step HBk.out))
            have HBF : Hid (Bl w4 wr) := HB.out.step (HB6.out.step HBk.out)
            rw [HXQ.out]
            clear HFR HTS HSX HXQ HQ
            go_wp2_with fail
            go_loop [14] (fun u14 => ∃ j : Nat, j ≤ ins.length ∧ u14 = .int .i64 j) (fun u14 => ins.length - (intOf u14).toNat)
            case atStart => exact ⟨0, Nat.zero_le _, rfl⟩
            case round =>
              obtain ⟨j, hj0, rfl⟩ := hrel
              by_cases hlj : j < ins.length
              · obtain ⟨u, hu⟩ : ∃ u, ins[j]? = some u := ⟨ins[j], List.getElem?_eq_getElem hlj⟩
                obtain ⟨xb, xoff, rfl, hxc⟩ := HSW.out j u hu
                have CI6 : Hid (Calls Try.prog 21 #[.slice na ND.length nc, .string (M.bs u)] wr fun e w' => e = .returned (.bool true) ∧ w' = wr) := by
                  have := CI4.out u
                  rw [decide_eq_true (HINS.out u (List.mem_of_getElem? hu))] at this; exact this
                clear hu CI5
                go_wp2_with (go_at_call 21; refine CI6.out.mono ?_; clear CI6; rintro e w' ⟨rfl, hw'⟩; rw [hw']; clear hw' w')
                go_round
                case rel => exact ⟨j + 1, by omega, by go_num⟩
                case measure => simp [intOf]; omega
              · obtain rfl : j = ins.length := by omega
                obtain ⟨z, hz⟩ : ∃ z, q i = z := ⟨_, rfl⟩
                rw [hz] at HPG HPS ⊢
                cases z
                · have HP2 : Hid ((plcs q g.2.length)[(plcs q i).length]? ≠ some i) := by
                    show ¬ _
                    have := HPG.out
                    simpa using this
                  have HL1 : Hid ((plcs q (i + 1)).length = (plcs q i).length) := by show _ = _; rw [HPS.out]; simp
                  by_cases hat : (plcs q i).length < (plcs q g.2.length).length
                  · obtain ⟨y, hy⟩ : ∃ y, (plcs q g.2.length)[(plcs q i).length]? = some y := ⟨_, List.getElem?_eq_getElem hat⟩
                    obtain ⟨lb, loff, rfl, hlb, hlc⟩ := HIW.out _ y hy
                    have hyi : ((y : Int) == (i : Int)) = false := by
                      rw [beq_eq_false_iff_ne]
                      intro e
                      have : y = i := by omega
                      exact HP2.out (by rw [hy, this])
                    have hat2 : decide (((plcs q i).length : Int) < ((plcs q g.2.length).length : Int)) = true := by simp; omega
                    clear hy hz HPG HPS HP2
                    generalize (plcs q i).length = at0 at *
                    go_wp2_with (go_at_call 21; refine CI5.out.mono ?_; clear CI5; rintro e w' ⟨rfl, hw'⟩; rw [hw']; clear hw' w')
                    go_roundw
                    case rel => exact ⟨i + 1, by omega, by go_num, by rw [HL1.out], HBF.out⟩
                    case measure => simp [intOf]; omega
                  · have hat2 : decide (((plcs q i).length : Int) < ((plcs q g.2.length).length : Int)) = false := by simp; omega
                    clear hz HPG HPS HP2
                    generalize (plcs q i).length = at0 at *
                    go_wp2_with (go_at_call 21; refine CI5.out.mono ?_; clear CI5; rintro e w' ⟨rfl, hw'⟩; rw [hw']; clear hw' w')
                    go_roundw
                    case rel => exact ⟨i + 1, by omega, by go_num, by rw [HL1.out], HBF.out⟩
                    case measure => simp [intOf]; omega
                · have hy : (plcs q g.2.length)[(plcs q i).length]? = some i := by have := HPG.out; simpa using this
                  have hat := (List.getElem?_eq_some_iff.1 hy).1
                  obtain ⟨lb, loff, rfl, hlb, hlc⟩ := HIW.out _ i hy
                  have hyi : ((i : Int) == (i : Int)) = true := by simp
                  have HL1 : Hid ((plcs q (i + 1)).length = (plcs q i).length + 1) := by show _ = _; rw [HPS.out]; simp
                  have hat2 : decide (((plcs q i).length : Int) < ((plcs q g.2.length).length : Int)) = true := by simp; omega
                  clear hy hz HPG HPS
                  generalize (plcs q i).length = at0 at *
                  go_wp2_with (go_at_call 21; refine CI5.out.mono ?_; clear CI5; rintro e w' ⟨rfl, hw'⟩; rw [hw']; clear hw' w')
                  go_roundw
                  case rel => exact ⟨i + 1, by omega, by go_num, by rw [HL1.out]; go_num, HBF.out⟩
                  case measure => simp [intOf]; omega
      · obtain rfl : i = g.2.length := by omega
        go_wp2_with fail
        go_ret
        exact ⟨by simp, p4⟩
  · have hq1 : ((TR.chk g : Int) != 0) = true := by rw [bne_iff_ne]; omega
    clear hg hk hgr hck hx hxl
    generalize TR.chk g = ck at *
    unfold gv at CG CC ⊢
    go_enter Try.func5, Try.ntmps5
    go_wp2_with (first
      | (go_at_call 9; refine CA.out.mono ?_; clear CA; rintro e w1 ⟨rfl, HB1⟩; obtain ⟨p1, p2, p3, p4⟩ := HC.out _ HB1)
      | (go_at_call 10; refine (CG.out _ HB1).mono ?_; clear CG p1 p2 p3 p4 HB1; rintro e w2 ⟨rfl, HB2⟩; obtain ⟨p1, p2, p3, p4⟩ := HC.out _ HB2)
      | (go_at_call 11; refine (CC.out _ HB2).mono ?_; clear CC p1 p2 p3 p4 HB2; rintro e w3 ⟨rfl, HB3⟩))
    go_ret
    exact ⟨rfl, (HC.out _ HB3).2.2.2⟩
end Go.Proofs.Ythpdmeoljdmncaa
