/- PROVED: for all manifests m and n and all bytes s the law CombForms returns true and leaves its arguments as they were: a manifest is read from its bytes as it was, bytes that are read are its own, unlike manifests have unlike bytes. No condition; the tables start and roundWords hold what the program's text lays in them (the card ties them). -/
import Derived.Test.YtaceemaedpkigaaDoorFrm
import Derived.Test.YtaceemaedpkigaaDoorOpM
import Derived.Test.YtaceemaedpkigaaDoorLaid
import Derived.Test.YtaceemaedpkigaaDoorCards
import Derived.Test.YtaceemaedpkigaaDoorTie
import Derived.SevenTiedAt
import Derived.ChangeOld
import Derived.Below
import Derived.ShutString
namespace Go.Proofs.YtaceemaedpkigaaDoor.combForms
open Go.ChangeShapes Go.WideShapes Go.ChangeAt Go.WideMaps Go.WideElems Go.RowKit
open Go.ChangeMaps (open_string shut_string)
set_option linter.unusedVariables false

theorem door_met (os : Os) (args : Array Value) : laidMetH Tryd.prog Rows.combFormsRow.laid ((World.doorLaid Tryd.prog 400 os).forCall (fun _ _ => 0) ⟨#[], args, []⟩).memory :=
  laidMetH_of_parts3 (fuel := 8) (laidMet_of_run' 8 (by kernel_rfl) (by kernel_rfl)) (by kernel_rfl) (by kernel_rfl)

theorem bs_beq2 (x y : List UInt8) : (M.bs x == M.bs y) = decide (x = y) ∧ ((M.bs x).toList == (M.bs y).toList) = decide (x = y) := by
  have e1 : (M.bs x).toList = x := by rw [Lib.toList_data, M.bs_toList]
  have e2 : (M.bs y).toList = y := by rw [Lib.toList_data, M.bs_toList]
  refine ⟨?_, ?_⟩
  · by_cases h : x = y
    · subst h; simp only [decide_true]; show ((M.bs x).data == (M.bs x).data) = true; simp
    · simp only [h, decide_false]
      show ((M.bs x).data == (M.bs y).data) = false
      simp only [M.bs, beq_eq_false_iff_ne, ne_eq]
      intro e; exact h (by simpa using congrArg Array.toList e)
  · rw [e1, e2]
    by_cases h : x = y
    · subst h; simp
    · simp [h]
theorem great_no (wh : List UInt8) (sz : Int) (pa : Option Addr) (n pc : Nat) (W : World) (hw : wh.length = 32) (hn : n ≤ 40) : Calls Tryd.prog 6 #[.agg (mv wh sz pa n pc), .slice none 0 0] W fun e w' => e = .returned (.bool false) ∧ Below W.heap.size W w' :=
  great_loop wh sz pa n pc [] none 0 W hw hn (by simp) (fun i t h => by simp at h) 0 (Nat.le_refl _) (fun i u h => by omega) (fun u h => by simp at h) false (by show false = _; rfl)
theorem good_small {sz : Int} {n : Nat} (h : goodB sz n = true) : 0 ≤ sz ∧ sz ≤ 512 ∧ n ≤ 8 := by
  unfold goodB at h
  simp only [decide_eq_true_eq] at h
  refine ⟨h.1, h.2.1, ?_⟩
  have := h.2.2
  unfold S.nch at this; omega
theorem walk (wh1 : List UInt8) (sz1 : Int) (pa1 : Option Addr) (pc1 : Nat) (P1 : List (List UInt8)) (hw1 : wh1.length = 32) (hz1 : -9223372036854775808 ≤ sz1 ∧ sz1 < 9223372036854775808) (hn1 : P1.length ≤ maxLen)
    (wh2 : List UInt8) (sz2 : Int) (pa2 : Option Addr) (pc2 : Nat) (P2 : List (List UInt8)) (hw2 : wh2.length = 32) (hz2 : -9223372036854775808 ≤ sz2 ∧ sz2 < 9223372036854775808) (hn2 : P2.length ≤ maxLen)
    (s0 : ByteArray) (hs0 : s0.size ≤ maxLen) (w : World) (hG : GW w) (hp1 : Dgs w.heap.size w pa1 P1) (hp2 : Dgs w.heap.size w pa2 P2) :
    Calls Tryd.prog 3 #[.agg (mv wh1 sz1 pa1 P1.length pc1), .agg (mv wh2 sz2 pa2 P2.length pc2), .string s0] w fun e w' => e = .returned (.bool true) ∧ Below w.heap.size w w' := by
  have hmx : maxLen ≤ 9223372036854775807 := by decide
  obtain ⟨s, rfl⟩ : ∃ s, s0 = M.bs s := ⟨s0.data.toList, (M.bs_of s0).symm⟩
  have hs : s.length ≤ 9223372036854775807 := by have := M.bs_size s; omega
  have s1 := mv_size wh1 sz1 pa1 P1.length pc1 hw1
  have s2 := mv_size wh2 sz2 pa2 P2.length pc2 hw2
  by_cases h1 : 40 < P1.length
  · exact frm_g1 _ _ _ w hG s1 s2 (fun W _ => great_many wh1 sz1 pa1 P1.length pc1 none 0 0 W hw1 (by omega) (by omega) (Or.inl h1))
  by_cases h2 : 40 < P2.length
  · exact frm_g2 _ _ _ w hG s1 s2 (fun W _ => great_no wh1 sz1 pa1 P1.length pc1 W hw1 (by omega)) (fun W _ => great_many wh2 sz2 pa2 P2.length pc2 none 0 0 W hw2 (by omega) (by omega) (Or.inl h2))
  have T1 := fun W (_ : GB ((w.alloc (.cells (mv wh1 sz1 pa1 P1.length pc1) 26)).alloc (.cells (mv wh2 sz2 pa2 P2.length pc2) 26)) W) => great_no wh1 sz1 pa1 P1.length pc1 W hw1 (by omega)
  have T2 := fun W (_ : GB ((w.alloc (.cells (mv wh1 sz1 pa1 P1.length pc1) 26)).alloc (.cells (mv wh2 sz2 pa2 P2.length pc2) 26)) W) => great_no wh2 sz2 pa2 P2.length pc2 W hw2 (by omega)
  have hB0 : Below w.heap.size w ((w.alloc (.cells (mv wh1 sz1 pa1 P1.length pc1) 26)).alloc (.cells (mv wh2 sz2 pa2 P2.length pc2) 26)) := ((Below.refl _ w).alloc (Nat.le_refl _) _).alloc (by simp) _
  have hD1 : ∀ W, GB ((w.alloc (.cells (mv wh1 sz1 pa1 P1.length pc1) 26)).alloc (.cells (mv wh2 sz2 pa2 P2.length pc2) 26)) W → Dgs W.heap.size W pa1 P1 := fun W g => (hp1.below hB0 hB0.size).below g.b g.b.size
  have hD2 : ∀ W, GB ((w.alloc (.cells (mv wh1 sz1 pa1 P1.length pc1) 26)).alloc (.cells (mv wh2 sz2 pa2 P2.length pc2) 26)) W → Dgs W.heap.size W pa2 P2 := fun W g => (hp2.below hB0 hB0.size).below g.b g.b.size
  have G1 := fun W (_ : GB ((w.alloc (.cells (mv wh1 sz1 pa1 P1.length pc1) 26)).alloc (.cells (mv wh2 sz2 pa2 P2.length pc2) 26)) W) => Good_at wh1 sz1 pa1 P1.length pc1 W hw1
  -- the bytes s
  have hdec := Decode_any s hs
  have D3 : (∀ w, Calls Tryd.prog 10 #[.string (M.bs s)] w fun e w' => e = .returned (.tuple #[.agg zero34, .int .i64 3]) ∧ Below w.heap.size w w') → ∀ W : World, Calls Tryd.prog 10 #[.string (M.bs s)] W fun r w' => ∃ CK : Array Value, CK.size = 34 ∧ CK.all (·.oneCell') = true ∧ r = .returned (.tuple #[.agg CK, .int .i64 3]) ∧ Below W.heap.size W w' ∧
      (∀ W', Below w'.heap.size w' W' → Calls Tryd.prog 9 #[.agg CK, .agg zero34] W' fun r w'' => r = .returned (.bool true) ∧ Below W'.heap.size W' w'') := fun hd W => by
    refine (hd W).mono ?_
    rintro e w' ⟨rfl, hb⟩
    refine ⟨zero34, zero34_size, mv_one _ _ _ _ _, rfl, hb, fun W' _ => ?_⟩
    have h := Same_at d0 d0 0 0 none none [] [] 0 0 W' (by simp [d0]) (by simp [d0]) (by simp) (by simp) (fun i d h => by simp at h) (fun i d h => by simp at h)
    rw [show sameB d0 d0 0 0 [] [] = true by simp [sameB]] at h
    exact h
  have D0 : ∀ (a : List UInt8) (n : Int) (D : List (List UInt8)), a.length = 32 → goodB n D.length = true → encB a n D = s → (∀ w, Calls Tryd.prog 10 #[.string (M.bs s)] w fun e w' => ∃ pa pc, e = .returned (.tuple #[.agg (mv a n pa D.length pc), .int .i64 0]) ∧ Dgs w'.heap.size w' pa D ∧ Below w.heap.size w w') →
      ∀ W : World, Calls Tryd.prog 10 #[.string (M.bs s)] W fun r w' => ∃ CK : Array Value, CK.size = 34 ∧ CK.all (·.oneCell') = true ∧ r = .returned (.tuple #[.agg CK, .int .i64 0]) ∧ Below W.heap.size W w' ∧
      (∀ W', Below w'.heap.size w' W' → Calls Tryd.prog 7 #[.agg CK] W' fun r w'' => r = .returned (.tuple #[.string (M.bs s), .int .i64 0]) ∧ Below W'.heap.size W' w'') := fun a n D ha hg he hd W => by
    refine (hd W).mono ?_
    rintro e w' ⟨pa, pc, rfl, hDg, hb⟩
    refine ⟨mv a n pa D.length pc, mv_size _ _ _ _ _ ha, mv_one _ _ _ _ _, rfl, hb, fun W' hW' => ?_⟩
    have h := Encode_at a n D pa pc W' ha (hDg.below hW' hW'.size) hg
    rw [he] at h
    exact h
  -- the first manifest's bytes
  have D1 : goodB sz1 P1.length = true → ∀ W, GB ((w.alloc (.cells (mv wh1 sz1 pa1 P1.length pc1) 26)).alloc (.cells (mv wh2 sz2 pa2 P2.length pc2) 26)) W → Calls Tryd.prog 10 #[.string (M.bs (encB wh1 sz1 P1))] W fun r w' => ∃ CK : Array Value, CK.size = 34 ∧ CK.all (·.oneCell') = true ∧ r = .returned (.tuple #[.agg CK, .int .i64 0]) ∧ Below W.heap.size W w' ∧
      ∀ W', Below w'.heap.size w' W' → Calls Tryd.prog 9 #[.agg CK, .agg (mv wh1 sz1 pa1 P1.length pc1)] W' fun r w'' => r = .returned (.bool true) ∧ Below W'.heap.size W' w'' := fun hg W g => by
    obtain ⟨q1, q2, q3⟩ := good_small hg
    have hfl := dgs_flat P1 hp1.len
    have hln := encB_len wh1 sz1 P1 hw1 (by omega)
    have hnl := M.numB_len sz1
    refine (decode_yes (encB wh1 sz1 P1) W (by omega) wh1 (M.numB sz1) P1 sz1 (enc_read wh1 sz1 P1 hw1 (by omega)) (by omega) (num_read sz1 hz1.1 hz1.2) hw1 hp1.len hg).mono ?_
    rintro e w' ⟨pa, pc, rfl, hDg, hb⟩
    refine ⟨mv wh1 sz1 pa P1.length pc, mv_size _ _ _ _ _ hw1, mv_one _ _ _ _ _, rfl, hb, fun W' hW' => ?_⟩
    have h := Same_at wh1 wh1 sz1 sz1 pa pa1 P1 P1 pc pc1 W' hw1 hw1 (by omega) (by omega) (hDg.below hW' hW'.size) (((hD1 W g).below hb hb.size).below hW' hW'.size)
    rw [show sameB wh1 wh1 sz1 sz1 P1 P1 = true by simp [sameB]] at h
    exact h
  cases hg1 : goodB sz1 P1.length with
  | false =>
    have E1 := fun W (_ : GB ((w.alloc (.cells (mv wh1 sz1 pa1 P1.length pc1) 26)).alloc (.cells (mv wh2 sz2 pa2 P2.length pc2) 26)) W) => Encode_no wh1 sz1 pa1 P1.length pc1 W hw1 hg1
    rw [hg1] at G1
    cases hg2 : goodB sz2 P2.length with
    | false =>
      have E2 := fun W (_ : GB ((w.alloc (.cells (mv wh1 sz1 pa1 P1.length pc1) 26)).alloc (.cells (mv wh2 sz2 pa2 P2.length pc2) 26)) W) => Encode_no wh2 sz2 pa2 P2.length pc2 W hw2 hg2
      rcases hdec with hd | ⟨a, n, D, ha, hD, hg, he, hd⟩
      · exact frm_nn3 _ _ s w hG s1 s2 _ _ T1 T2 E1 E2 G1 (fun W _ => D3 hd W)
      · exact frm_nn0 _ _ s w hG s1 s2 _ _ T1 T2 E1 E2 G1 (fun W _ => D0 a n D ha hg he hd W)
    | true =>
      have E2 := fun W (g : GB ((w.alloc (.cells (mv wh1 sz1 pa1 P1.length pc1) 26)).alloc (.cells (mv wh2 sz2 pa2 P2.length pc2) 26)) W) => Encode_at wh2 sz2 P2 pa2 pc2 W hw2 (hD2 W g) hg2
      rcases hdec with hd | ⟨a, n, D, ha, hD, hg, he, hd⟩
      · exact frm_ny3 _ _ s w hG s1 s2 _ _ T1 T2 E1 E2 G1 (fun W _ => D3 hd W)
      · exact frm_ny0 _ _ s w hG s1 s2 _ _ T1 T2 E1 E2 G1 (fun W _ => D0 a n D ha hg he hd W)
  | true =>
    have E1 := fun W (g : GB ((w.alloc (.cells (mv wh1 sz1 pa1 P1.length pc1) 26)).alloc (.cells (mv wh2 sz2 pa2 P2.length pc2) 26)) W) => Encode_at wh1 sz1 P1 pa1 pc1 W hw1 (hD1 W g) hg1
    rw [hg1] at G1
    have D1' := D1 hg1
    cases hg2 : goodB sz2 P2.length with
    | false =>
      have E2 := fun W (_ : GB ((w.alloc (.cells (mv wh1 sz1 pa1 P1.length pc1) 26)).alloc (.cells (mv wh2 sz2 pa2 P2.length pc2) 26)) W) => Encode_no wh2 sz2 pa2 P2.length pc2 W hw2 hg2
      rcases hdec with hd | ⟨a, n, D, ha, hD, hg, he, hd⟩
      · exact frm_yn3 _ _ s w hG s1 s2 _ _ T1 T2 E1 E2 G1 D1' (fun W _ => D3 hd W)
      · exact frm_yn0 _ _ s w hG s1 s2 _ _ T1 T2 E1 E2 G1 D1' (fun W _ => D0 a n D ha hg he hd W)
    | true =>
      have E2 := fun W (g : GB ((w.alloc (.cells (mv wh1 sz1 pa1 P1.length pc1) 26)).alloc (.cells (mv wh2 sz2 pa2 P2.length pc2) 26)) W) => Encode_at wh2 sz2 P2 pa2 pc2 W hw2 (hD2 W g) hg2
      obtain ⟨q1, q2, q3⟩ := good_small hg1
      obtain ⟨u1, u2, u3⟩ := good_small hg2
      have hf1 := dgs_flat P1 hp1.len
      have hf2 := dgs_flat P2 hp2.len
      have hB : decide (encB wh1 sz1 P1 = encB wh2 sz2 P2) = sameB wh1 wh2 sz1 sz2 P1 P2 := by
        unfold sameB
        by_cases h : encB wh1 sz1 P1 = encB wh2 sz2 P2
        · obtain ⟨e1, e2, e3⟩ := encB_inj wh1 wh2 sz1 sz2 P1 P2 hw1 hw2 hp1.len hp2.len (by omega) (by omega) hz1 hz2 h
          simp [e1, e2, e3]
        · have hne : ¬ (wh1 = wh2 ∧ sz1 = sz2 ∧ P1 = P2) := fun ⟨e1, e2, e3⟩ => h (by rw [e1, e2, e3])
          simp only [h, hne, decide_false]
      obtain ⟨b1, b2⟩ := bs_beq2 (encB wh1 sz1 P1) (encB wh2 sz2 P2)
      rw [hB] at b1 b2
      have S12 := fun W (g : GB ((w.alloc (.cells (mv wh1 sz1 pa1 P1.length pc1) 26)).alloc (.cells (mv wh2 sz2 pa2 P2.length pc2) 26)) W) => Same_at wh1 wh2 sz1 sz2 pa1 pa2 P1 P2 pc1 pc2 W hw1 hw2 (by omega) (by omega) (hD1 W g) (hD2 W g)
      rcases hdec with hd | ⟨a, n, D, ha, hD, hg, he, hd⟩
      · exact frm_yy3 _ _ s w hG s1 s2 _ _ _ b1 b2 T1 T2 E1 E2 G1 S12 D1' (fun W _ => D3 hd W)
      · exact frm_yy0 _ _ s w hG s1 s2 _ _ _ b1 b2 T1 T2 E1 E2 G1 S12 D1' (fun W _ => D0 a n D ha hg he hd W)


set_option maxRecDepth 100000 in
theorem lifted (os : Os) (started : os.Started) (H : Type) (enc : TypeId × Value → H) :
    ReturnsInHanded {} Tryd.checked os 3 .any (fun w args => (Rows.combFormsSpec.pre enc Tryd.prog Tryd.f3 [] false w args ∧ laidMetH Tryd.prog Rows.combFormsRow.laid w) ∧ sizedMet enc Tryd.prog Tryd.f3 (OpenSpec.ofChange Rows.combFormsSpec) false w args)
      (Rows.combFormsSpec.post enc Tryd.prog Tryd.f3 false true false false) := by
  refine returnsInHanded_of_change_and (C := Tryd.checked) (X := fun w _ => laidMetH Tryd.prog Rows.combFormsRow.laid w) (fun _ _ _ hh h => h.of_heap hh) own started (by kernel_rfl) Tryd.func3
    (ChangeSpec.witness_shaped (enc := enc) (C := Tryd.checked) (os := os) (X := fun w _ => laidMetH Tryd.prog Rows.combFormsRow.laid w) false (World.doorLaid Tryd.prog 400 os) #[.agg zero34, .agg zero34, .string ByteArray.empty] 8 rfl (World.shaped_of_RefB (by kernel_rfl) (by kernel_rfl)) (by kernel_rfl) (by kernel_rfl) (by kernel_rfl) (door_met os _)) ?_
  intro W base args ds gs before hval0 hW _ _ hL _
  have hval : ∀ (j : Nat) t v, Tryd.f3.params[j]? = some t → args[j]? = some v → Value.okWide Tryd.prog W .any base t v := hval0
  have hW' := hW
  obtain ⟨p, q, hA0, hV, rfl, hfz, hnd⟩ := hW
  have hA : DataW.TrodAll enc Tryd.prog W 0 (fun _ => true) true Tryd.f3.params.toList args.toList ds p := hA0
  rw [Tryd.params3] at hA hval
  obtain ⟨v0, vs0, d0, ds0, p0, q0, hargs, rfl, rfl, h0, r0⟩ := trodAll_cons hA
  obtain ⟨v1, vs1, d1, ds1, p1, q1, rfl, rfl, rfl, h1, r1⟩ := trodAll_cons r0
  obtain ⟨v2, vs2, d2, ds2, p2, q2, rfl, rfl, rfl, h2, r2⟩ := trodAll_cons r1
  obtain ⟨rfl, rfl, rfl⟩ := trodAll_nil r2
  obtain rfl : args = #[v0, v1, v2] := by cases args; simp_all
  obtain ⟨rfl, rfl⟩ := trodVars_none hV
  have k0 := h0
  have k1 := h1
  have k2 := h2
  have lt0 : ∀ x ∈ p0, x.block < W.heap.size := by obtain ⟨m, hm⟩ := k0; exact DataW.trod_lt m _ _ _ hm
  have lt1 : ∀ x ∈ p1, x.block < W.heap.size := by obtain ⟨m, hm⟩ := k1; exact DataW.trod_lt m _ _ _ hm
  have lt2 : ∀ x ∈ p2, x.block < W.heap.size := by obtain ⟨m, hm⟩ := k2; exact DataW.trod_lt m _ _ _ hm
  obtain ⟨wh0, sz0, pa0, pc0, ps0, rfl, hw0, hz0, hp0, hn0⟩ := open_mani (hval 0 26 v0 rfl rfl) h0
  obtain ⟨wh1, sz1, pa1, pc1, ps1, rfl, hw1, hz1, hp1, hn1⟩ := open_mani (hval 1 26 v1 rfl rfl) h1
  obtain ⟨a2, rfl, rfl, rfl, w2⟩ := open_string Tryd.underlying9 (hval 2 9 v2 rfl rfl) h2
  clear hA0 hval0
  refine (walk wh0 sz0 pa0 pc0 ps0 hw0 hz0 hn0 wh1 sz1 pa1 pc1 ps1 hw1 hz1 hn1 a2 w2 W (of_laid hL) hp0 hp1).mono fun e W' ⟨he, bel⟩ => ?_
  subst he
  exact ⟨_, rfl, _, _, _, [], _, [], hW', trodAll_mk1 (shut_bool Tryd.underlying4 _), (trodAll_cons_mk (Below.trod laidOut (by kernel_rfl) (of_decide_eq_true (by kernel_rfl)) k0 bel lt0) (trodAll_cons_mk (Below.trod laidOut (by kernel_rfl) (of_decide_eq_true (by kernel_rfl)) k1 bel lt1) (trodAll_cons_mk (shut_string Tryd.underlying9 w2) trodAll_mk0))), rfl, bel.frame _, fun h => by cases h⟩

theorem over : Rows.CombFormsSaid :=
  OpenClaim.holds_of_wide 3 Tryd.f3 rfl rfl rfl rfl rfl rfl rfl ⟨rfl, rfl, rfl, rfl, rfl⟩ rfl rfl rfl rfl rfl (by kernel_rfl) Tryd.func3 (by kernel_rfl)
    (of_decide_eq_true (by kernel_rfl)) (by unfold Func.isWrapper; first | (rw [if_pos (by decide +kernel)]; kernel_rfl) | (rw [if_neg (by decide +kernel)]; exact ⟨rfl, rfl⟩))
    (fun os started H enc _ => lifted os started H enc)

theorem proved : Rows.CombFormsCardSaid :=
  Claim7.holds_tied_plain_at .later [] [.data, .data] true _ false
    over (fun _ h => by cases h) (by kernel_rfl) (fun _ h => by cases h) combForms_row_tie rfl ⟨rfl, rfl⟩ (by kernel_rfl) rfl
    (fun f fn hf hfn => by
      obtain rfl : f = 3 := Option.some.inj ((show Tryd.prog.funcNamed "apiary/apiarylaw03.CombForms" = some 3 by kernel_rfl).symm.trans hf) |>.symm
      obtain rfl : fn = Tryd.f3 := (Option.some.inj (Tryd.func3.symm.trans hfn)).symm
      exact ⟨by kernel_rfl, fun j t ht => by
        rw [Tryd.params3] at ht
        rcases j with _ | _ | _ | j
        · obtain rfl : t = 26 := by simpa using ht.symm
          kernel_rfl
        · obtain rfl : t = 26 := by simpa using ht.symm
          kernel_rfl
        · obtain rfl : t = 9 := by simpa using ht.symm
          kernel_rfl
        · simp at ht⟩)
    (by kernel_rfl)
end Go.Proofs.YtaceemaedpkigaaDoor.combForms
