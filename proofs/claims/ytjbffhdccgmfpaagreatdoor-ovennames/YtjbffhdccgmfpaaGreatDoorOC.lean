/- The texts O7 O8 OBd O9 as one. -/
import Derived.Test.YtjbffhdccgmfpaaGreatDoorOB
import Derived.Test.YtjbffhdccgmfpaaGreatDoorVMath
import Derived.Great.BuildSlice
import Derived.Laws.StructEq
import Derived.Deep.MidRow
import Derived.Laws.Tables
/- oven.open: the kitchen, or the error. -/
namespace Go.Proofs.YtjbffhdccgmfpaaGreatDoor
open Go.RowKit Go.Maps
set_option linter.unusedVariables false
set_option linter.unusedSimpArgs false

theorem makeM (W : World) : (Instr.makeMap tMp none).run Tryz.prog W = .ok (.map (some W.heap.size)) (W.alloc (.map #[] 0)) := by simp [Instr.makeMap, run_underlying undMp]
theorem undKi : ∃ fs, Tryz.prog.underlying 56 = some (.struct fs) := ⟨_, Tryz.underlying56⟩
theorem infoKi : (Tryz.prog.info? 56).map (·.size) = some 3 := by kernel_rfl
/-- what open leaves behind -/
def OpP (g : RC.Gr) (l : List O.So) (p : GP) (W : World) (e : Ending) (w' : World) : Prop :=
  (O.err g l ≠ 0 ∧ e = .returned (.tuple #[.agg #[.slice none 0 0, .slice none 0 0, .map none], .int .i64 (O.err g l : Int)]) ∧ Bl W w') ∨ (∃ b, O.err g l = 0 ∧ e = .returned (.tuple #[.agg (kv g p b), .int .i64 0]) ∧ KM w' b (O.baked g l) ∧ W.heap.size ≤ b ∧ Bl W w')
theorem KM.set {W : World} {b x i : Nat} {v : Value} {m : O.Mp} {C : Array Value} {t : TypeId} (h : KM W b m) (hx : W.heap[x]? = some (.cells C t (0, 0))) : KM (W.setCell ⟨x, i, none⟩ v) b m := by
  have hne : b ≠ x := fun e => by
    subst e
    obtain ⟨D, ⟨es, cl, h1, _⟩, _⟩ := h
    rw [hx] at h1; cases h1
  refine h.block ?_
  show (W.heap.modify x _)[b]? = _
  rw [Array.getElem?_modify, if_neg (fun e => hne e.symm)]
set_option maxRecDepth 8000 in
set_option maxHeartbeats 4000000 in
theorem open_x (g : RC.Gr) (l : List O.So) (sa : Option Addr) (sc : Nat) (aa : Option Addr) (ac : Nat) (a : Option Addr) (c : Nat) {w W : World} (hG : GW w) (hT : Tab w) (HB : Bl w W) (hg : GA W.heap.size W g sa sc aa ac) (hk : grOk g) (hv : RS lyS W a l) (hl : l.length ≤ 1000) (hln : ∀ s ∈ l, s.1.length ≤ maxLen) (hlb : ∀ s ∈ l, s.2.length ≤ 1000000) :
    Calls Tryz.prog 15 #[.agg #[.slice sa g.1.length sc, .slice aa g.2.length ac], .slice a l.length c] W (OpP g l ⟨sa, sc, aa, ac⟩ W) := by
  have HW0 : Hid (Bl W ((W.alloc (.cells #[.slice sa g.1.length sc, .slice aa g.2.length ac] 25)).alloc (.cells #[.slice none 0 0, .slice none 0 0, .map none] 56))) := ((Bl.refl W).alloc _).alloc _
  have FA : Hid (∀ U, Bl ((W.alloc (.cells #[.slice sa g.1.length sc, .slice aa g.2.length ac] 25)).alloc (.cells #[.slice none 0 0, .slice none 0 0, .map none] 56)) U → U.cell? ⟨W.heap.size, 0, none⟩ = some (.slice sa g.1.length sc) ∧ U.cell? ⟨W.heap.size, 1, none⟩ = some (.slice aa g.2.length ac) ∧ U.heap[W.heap.size + 1]? = some (.cells #[.slice none 0 0, .slice none 0 0, .map none] 56 (0, 0)) ∧ U.cell? ⟨W.heap.size + 1, 0, none⟩ = some (.slice none 0 0) ∧ U.cell? ⟨W.heap.size + 1, 1, none⟩ = some (.slice none 0 0) ∧ U.cell? ⟨W.heap.size + 1, 2, none⟩ = some (.map none) ∧ (∀ i, U.frozen? ⟨W.heap.size + 1, i, none⟩ = false)) := fun U hU => by
    have h0 : ((W.alloc (.cells #[.slice sa g.1.length sc, .slice aa g.2.length ac] 25)).alloc (.cells #[.slice none 0 0, .slice none 0 0, .map none] 56)).heap[W.heap.size]? = some (.cells #[.slice sa g.1.length sc, .slice aa g.2.length ac] 25 (0, 0)) := by
      rw [Below.block ((Bl.refl (W.alloc (.cells #[.slice sa g.1.length sc, .slice aa g.2.length ac] 25))).alloc _) _ (by simp)]; exact heap_alloc_new _ _
    have h1 : ((W.alloc (.cells #[.slice sa g.1.length sc, .slice aa g.2.length ac] 25)).alloc (.cells #[.slice none 0 0, .slice none 0 0, .map none] 56)).heap[W.heap.size + 1]? = some (.cells #[.slice none 0 0, .slice none 0 0, .map none] 56 (0, 0)) := by
      have := heap_alloc_new (W.alloc (.cells #[.slice sa g.1.length sc, .slice aa g.2.length ac] 25)) (.cells #[.slice none 0 0, .slice none 0 0, .map none] 56)
      rw [show (W.alloc (.cells #[.slice sa g.1.length sc, .slice aa g.2.length ac] 25)).heap.size = W.heap.size + 1 by simp] at this
      exact this
    have e0 := Below.block hU _ (TA.lt_heap h0)
    have e1 := Below.block hU _ (TA.lt_heap h1)
    rw [h0] at e0
    rw [h1] at e1
    exact ⟨by rw [Lib.cell_of_heap e0]; rfl, by rw [Lib.cell_of_heap e0]; rfl, e1, by rw [Lib.cell_of_heap e1]; rfl, by rw [Lib.cell_of_heap e1]; rfl, by rw [Lib.cell_of_heap e1]; rfl, frozen_rowM e1⟩
  have CC : Hid (Calls Tryz.prog 21 #[.agg #[.slice sa g.1.length sc, .slice aa g.2.length ac]] ((W.alloc (.cells #[.slice sa g.1.length sc, .slice aa g.2.length ac] 25)).alloc (.cells #[.slice none 0 0, .slice none 0 0, .map none] 56)) fun e w' => e = .returned (.int .i64 (TR.chk g : Int)) ∧ Bl ((W.alloc (.cells #[.slice sa g.1.length sc, .slice aa g.2.length ac] 25)).alloc (.cells #[.slice none 0 0, .slice none 0 0, .map none] 56)) w') := Check_x g sa sc aa ac (Bl.refl _) (hg.bl HW0.out) hk
  have XK : Hid (∀ w1, Bl ((W.alloc (.cells #[.slice sa g.1.length sc, .slice aa g.2.length ac] 25)).alloc (.cells #[.slice none 0 0, .slice none 0 0, .map none] 56)) w1 → KT w1 (w1.heap.size + 1) w1.heap.size g ⟨sa, sc, aa, ac⟩ [] ((w1.alloc (.map #[] 0)).alloc (.cells #[.slice sa g.1.length sc, .slice aa g.2.length ac, .map (some w1.heap.size)] 56))) := fun w1 h1 => by
    have hm := KM.made w1
    have hb2 : Bl (w1.alloc (.map #[] 0)) ((w1.alloc (.map #[] 0)).alloc (.cells #[.slice sa g.1.length sc, .slice aa g.2.length ac, .map (some w1.heap.size)] 56)) := (Bl.refl _).alloc _
    refine ⟨?_, hm.bl hb2, by omega, Nat.le_refl _, ((Bl.refl w1).alloc _).alloc _⟩
    have := heap_alloc_new (w1.alloc (.map #[] 0)) (.cells #[.slice sa g.1.length sc, .slice aa g.2.length ac, .map (some w1.heap.size)] 56)
    rw [show (w1.alloc (.map #[] 0)).heap.size = w1.heap.size + 1 by simp] at this
    exact this
  have CL : Hid (∀ w1, Bl ((W.alloc (.cells #[.slice sa g.1.length sc, .slice aa g.2.length ac] 25)).alloc (.cells #[.slice none 0 0, .slice none 0 0, .map none] 56)) w1 → Calls Tryz.prog 22 #[.pointer (some ⟨w1.heap.size + 1, 0, none⟩), .slice a l.length c] ((w1.alloc (.map #[] 0)).alloc (.cells #[.slice sa g.1.length sc, .slice aa g.2.length ac, .map (some w1.heap.size)] 56)) fun e w2 => e = .returned (.bool (decide ((O.nms l).Nodup))) ∧ KT w1 (w1.heap.size + 1) w1.heap.size g ⟨sa, sc, aa, ac⟩ (O.srcM l) w2) := fun w1 h1 =>
    lay_x (XK.out w1 h1) l a c ((hv.bl HW0.out).bl h1) hl hln
  have CS : Hid (∀ w1 w2, Bl ((W.alloc (.cells #[.slice sa g.1.length sc, .slice aa g.2.length ac] 25)).alloc (.cells #[.slice none 0 0, .slice none 0 0, .map none] 56)) w1 → KT w1 (w1.heap.size + 1) w1.heap.size g ⟨sa, sc, aa, ac⟩ (O.srcM l) w2 → Calls Tryz.prog 23 #[.slice sa g.1.length sc, .func (.func 24) #[.pointer (some ⟨w1.heap.size + 1, 0, none⟩)] #[]] w2 fun e w3 => e = .returned (.bool (g.1.any (O.lacks (O.srcM l)))) ∧ Bl w2 w3) := fun w1 w2 h1 h2 =>
    containsLacks h2 g.1 sa sc (TA.ts_of (hg.bl (HW0.out.step h1)).s) hk.s hk.t
  have CW : Hid (∀ w3, Bl W w3 → Calls Tryz.prog 25 #[.slice a l.length c, .func (.func 26) #[] #[]] w3 fun e w4 => e = .returned (.bool (l.any O.isWd)) ∧ Bl w3 w4) := fun w3 h3 =>
    containsWide l a c (hv.bl h3) (by unfold maxLen; omega) (fun s hs => by have := hlb s hs; unfold maxLen; omega)
  have CB : Hid (TR.Good g → ∀ w1 w4, Bl ((W.alloc (.cells #[.slice sa g.1.length sc, .slice aa g.2.length ac] 25)).alloc (.cells #[.slice none 0 0, .slice none 0 0, .map none] 56)) w1 → KT w1 (w1.heap.size + 1) w1.heap.size g ⟨sa, sc, aa, ac⟩ (O.srcM l) w4 → Calls Tryz.prog 27 #[.pointer (some ⟨w1.heap.size + 1, 0, none⟩)] w4 fun e w5 => e = .returned (.tuple #[]) ∧ KT w1 (w1.heap.size + 1) w1.heap.size g ⟨sa, sc, aa, ac⟩ (O.baked g l) w5) := fun hgd w1 w4 h1 h4 => by
    have hb : Bl w w1 := HB.step (HW0.out.step h1)
    exact bake_x h4 (hG.below hb hG.z) (hT.below hb) (hg.bl (HW0.out.step h1)) hk hgd hlb hl
  have HP : Hid (OpP g l ⟨sa, sc, aa, ac⟩ W = fun e w' => (O.err g l ≠ 0 ∧ e = .returned (.tuple #[.agg #[.slice none 0 0, .slice none 0 0, .map none], .int .i64 (O.err g l : Int)]) ∧ Bl W w') ∨ (∃ b, O.err g l = 0 ∧ e = .returned (.tuple #[.agg (kv g ⟨sa, sc, aa, ac⟩ b), .int .i64 0]) ∧ KM w' b (O.baked g l) ∧ W.heap.size ≤ b ∧ Bl W w')) := rfl
  obtain ⟨fs, hum⟩ := undKi
  have hmm := fun U => makeM U
  have hgl : g.1.length ≤ 9223372036854775807 := hk.s
  clear hG hT hg hk hv hln hlb XK
  by_cases h1 : TR.chk g = 0
  · have hgd : TR.Good g := TR.chk_zero.1 h1
    rw [h1] at CC
    by_cases h2 : (O.nms l).Nodup
    · rw [show decide ((O.nms l).Nodup) = true by simp [h2]] at CL
      by_cases h3 : l.length = g.1.length
      · cases h4 : g.1.any (O.lacks (O.srcM l)) with
        | true =>
          rw [h4] at CS
          have HE : Hid (O.err g l = 22) := by show _ = _; unfold O.err; rw [if_neg (by omega), if_neg (by simp [h2]), if_pos (Or.inr h4)]
          have h3i : ((l.length : Int) != (g.1.length : Int)) = false := by simp; omega
          clear h1 h2 h3 h4 CW CB
          go_enter Tryz.func15, Tryz.ntmps15
          go_wp2_with (first
            | (go_at_call 21; refine CC.out.mono ?_; clear CC; rintro e w1 ⟨rfl, H1⟩; obtain ⟨f10, f11, f1r, f1a, f1b, f1c, f1z⟩ := FA.out w1 (H1); have FR1 : Hid _ := f1r; clear f1r)
            | (go_at_call 22; refine (CL.out w1 H1).mono ?_; clear CL; rintro e w2 ⟨rfl, X2⟩; obtain ⟨f20, f21, f2r, f2a, f2b, f2c, f2z⟩ := FA.out w2 (H1.step X2.bl); have FR2 : Hid _ := f2r; clear f2r)
            | (go_at_call 23; refine (CS.out w1 w2 H1 X2).mono ?_; clear CS; rintro e w3 ⟨rfl, H3⟩; have X3 := X2.grow H3; obtain ⟨f30, f31, f3r, f3a, f3b, f3c, f3z⟩ := FA.out w3 (H1.step X3.bl); have FR3 : Hid _ := f3r; clear f3r))
          (try simp only [Exit.inBlock, Exit.then])
          refine bodyPost_ret (results2_rowM rfl _ _ (W.heap.size + 1) 56 #[.slice none 0 0, .slice none 0 0, .map none] (0, 0) _ rfl (heap_setCell_rowM (heap_setCell_rowM (heap_setCell_rowM FR3.out))) hum rfl infoKi) rfl ?_
          rw [HP.out, HE.out]
          exact Or.inl ⟨by omega, rfl, (((HW0.out.step (H1.step X3.bl)).set (by omega) _ _).set (by omega) _ _).set (by omega) _ _⟩
        | false =>
          rw [h4] at CS
          cases h5 : l.any O.isWd with
          | true =>
            rw [h5] at CW
            have HE : Hid (O.err g l = 33) := by show _ = _; unfold O.err; rw [if_neg (by omega), if_neg (by simp [h2]), if_neg (by simp [h3, h4]), if_pos h5]
            have h3i : ((l.length : Int) != (g.1.length : Int)) = false := by simp; omega
            clear h1 h2 h3 h4 h5 CB
            go_enter Tryz.func15, Tryz.ntmps15
            go_wp2_with (first
              | (go_at_call 21; refine CC.out.mono ?_; clear CC; rintro e w1 ⟨rfl, H1⟩; obtain ⟨f10, f11, f1r, f1a, f1b, f1c, f1z⟩ := FA.out w1 (H1); have FR1 : Hid _ := f1r; clear f1r)
              | (go_at_call 22; refine (CL.out w1 H1).mono ?_; clear CL; rintro e w2 ⟨rfl, X2⟩; obtain ⟨f20, f21, f2r, f2a, f2b, f2c, f2z⟩ := FA.out w2 (H1.step X2.bl); have FR2 : Hid _ := f2r; clear f2r)
              | (go_at_call 23; refine (CS.out w1 w2 H1 X2).mono ?_; clear CS; rintro e w3 ⟨rfl, H3⟩; have X3 := X2.grow H3; obtain ⟨f30, f31, f3r, f3a, f3b, f3c, f3z⟩ := FA.out w3 (H1.step X3.bl); have FR3 : Hid _ := f3r; clear f3r)
              | (go_at_call 25; refine (CW.out w3 (HW0.out.step (H1.step X3.bl))).mono ?_; clear CW; rintro e w4 ⟨rfl, H4⟩; have X4 := X3.grow H4; obtain ⟨f40, f41, f4r, f4a, f4b, f4c, f4z⟩ := FA.out w4 (H1.step X4.bl); have FR4 : Hid _ := f4r; clear f4r))
            (try simp only [Exit.inBlock, Exit.then])
            refine bodyPost_ret (results2_rowM rfl _ _ (W.heap.size + 1) 56 #[.slice none 0 0, .slice none 0 0, .map none] (0, 0) _ rfl (heap_setCell_rowM (heap_setCell_rowM (heap_setCell_rowM FR4.out))) hum rfl infoKi) rfl ?_
            rw [HP.out, HE.out]
            exact Or.inl ⟨by omega, rfl, (((HW0.out.step (H1.step X4.bl)).set (by omega) _ _).set (by omega) _ _).set (by omega) _ _⟩
          | false =>
            rw [h5] at CW
            have HE : Hid (O.err g l = 0) := by show _ = _; unfold O.err; rw [if_neg (by omega), if_neg (by simp [h2]), if_neg (by simp [h3, h4]), if_neg (by simp [h5])]
            have h3i : ((l.length : Int) != (g.1.length : Int)) = false := by simp; omega
            clear h1 h2 h3 h4 h5
            go_enter Tryz.func15, Tryz.ntmps15
            go_wp2_with (first
              | (go_at_call 21; refine CC.out.mono ?_; clear CC; rintro e w1 ⟨rfl, H1⟩; obtain ⟨f10, f11, f1r, f1a, f1b, f1c, f1z⟩ := FA.out w1 (H1); have FR1 : Hid _ := f1r; clear f1r)
              | (go_at_call 22; refine (CL.out w1 H1).mono ?_; clear CL; rintro e w2 ⟨rfl, X2⟩; obtain ⟨f20, f21, f2r, f2a, f2b, f2c, f2z⟩ := FA.out w2 (H1.step X2.bl); have FR2 : Hid _ := f2r; clear f2r)
              | (go_at_call 23; refine (CS.out w1 w2 H1 X2).mono ?_; clear CS; rintro e w3 ⟨rfl, H3⟩; have X3 := X2.grow H3; obtain ⟨f30, f31, f3r, f3a, f3b, f3c, f3z⟩ := FA.out w3 (H1.step X3.bl); have FR3 : Hid _ := f3r; clear f3r)
              | (go_at_call 25; refine (CW.out w3 (HW0.out.step (H1.step X3.bl))).mono ?_; clear CW; rintro e w4 ⟨rfl, H4⟩; have X4 := X3.grow H4; obtain ⟨f40, f41, f4r, f4a, f4b, f4c, f4z⟩ := FA.out w4 (H1.step X4.bl); have FR4 : Hid _ := f4r; clear f4r)
              | (go_at_call 27; refine (CB.out hgd w1 w4 H1 X4).mono ?_; clear CB; rintro e w5 ⟨rfl, X5⟩; obtain ⟨f50, f51, f5r, f5a, f5b, f5c, f5z⟩ := FA.out w5 (H1.step X5.bl); have FR5 : Hid _ := f5r; clear f5r; have q0 := X5.c0; have q1 := X5.c1; have q2 := X5.c2; simp only at q0 q1 q2))
            (try simp only [Exit.inBlock, Exit.then])
            refine bodyPost_ret (results2_rowM rfl _ _ (W.heap.size + 1) 56 #[.slice sa g.1.length sc, .slice aa g.2.length ac, .map (some w1.heap.size)] (0, 0) _ rfl (heap_setCell_rowM (heap_setCell_rowM (heap_setCell_rowM FR5.out))) hum rfl infoKi) rfl ?_
            rw [HP.out, HE.out]
            refine Or.inr ⟨w1.heap.size, rfl, rfl, ?_, Nat.le_trans (Below.size HW0.out) (Below.size H1), (((HW0.out.step (H1.step X5.bl)).set (by omega) _ _).set (by omega) _ _).set (by omega) _ _⟩
            exact ((X5.mp.set FR5.out).set (heap_setCell_rowM FR5.out)).set (heap_setCell_rowM (heap_setCell_rowM FR5.out))
      · have HE : Hid (O.err g l = 22) := by show _ = _; unfold O.err; rw [if_neg (by omega), if_neg (by simp [h2]), if_pos (Or.inl h3)]
        have h3i : ((l.length : Int) != (g.1.length : Int)) = true := by simp; omega
        clear h1 h2 h3 CS CW CB
        go_enter Tryz.func15, Tryz.ntmps15
        go_wp2_with (first
          | (go_at_call 21; refine CC.out.mono ?_; clear CC; rintro e w1 ⟨rfl, H1⟩; obtain ⟨f10, f11, f1r, f1a, f1b, f1c, f1z⟩ := FA.out w1 (H1); have FR1 : Hid _ := f1r; clear f1r)
          | (go_at_call 22; refine (CL.out w1 H1).mono ?_; clear CL; rintro e w2 ⟨rfl, X2⟩; obtain ⟨f20, f21, f2r, f2a, f2b, f2c, f2z⟩ := FA.out w2 (H1.step X2.bl); have FR2 : Hid _ := f2r; clear f2r))
        (try simp only [Exit.inBlock, Exit.then])
        refine bodyPost_ret (results2_rowM rfl _ _ (W.heap.size + 1) 56 #[.slice none 0 0, .slice none 0 0, .map none] (0, 0) _ rfl (heap_setCell_rowM (heap_setCell_rowM (heap_setCell_rowM FR2.out))) hum rfl infoKi) rfl ?_
        rw [HP.out, HE.out]
        exact Or.inl ⟨by omega, rfl, (((HW0.out.step (H1.step X2.bl)).set (by omega) _ _).set (by omega) _ _).set (by omega) _ _⟩
    · rw [show decide ((O.nms l).Nodup) = false by simp [h2]] at CL
      have HE : Hid (O.err g l = 21) := by show _ = _; unfold O.err; rw [if_neg (by omega), if_pos (by simp [h2])]
      clear h1 h2 CS CW CB
      go_enter Tryz.func15, Tryz.ntmps15
      go_wp2_with (first
        | (go_at_call 21; refine CC.out.mono ?_; clear CC; rintro e w1 ⟨rfl, H1⟩; obtain ⟨f10, f11, f1r, f1a, f1b, f1c, f1z⟩ := FA.out w1 (H1); have FR1 : Hid _ := f1r; clear f1r)
        | (go_at_call 22; refine (CL.out w1 H1).mono ?_; clear CL; rintro e w2 ⟨rfl, X2⟩; obtain ⟨f20, f21, f2r, f2a, f2b, f2c, f2z⟩ := FA.out w2 (H1.step X2.bl); have FR2 : Hid _ := f2r; clear f2r))
      (try simp only [Exit.inBlock, Exit.then])
      refine bodyPost_ret (results2_rowM rfl _ _ (W.heap.size + 1) 56 #[.slice none 0 0, .slice none 0 0, .map none] (0, 0) _ rfl (heap_setCell_rowM (heap_setCell_rowM (heap_setCell_rowM FR2.out))) hum rfl infoKi) rfl ?_
      rw [HP.out, HE.out]
      exact Or.inl ⟨by omega, rfl, (((HW0.out.step (H1.step X2.bl)).set (by omega) _ _).set (by omega) _ _).set (by omega) _ _⟩
  · have HE : Hid (O.err g l = TR.chk g) := by show _ = _; unfold O.err; rw [if_pos h1]
    have h1i : ((TR.chk g : Int) != 0) = true := by simp; omega
    clear CL CS CW CB
    go_enter Tryz.func15, Tryz.ntmps15
    go_wp2_with (first
      | (go_at_call 21; refine CC.out.mono ?_; clear CC; rintro e w1 ⟨rfl, H1⟩; obtain ⟨f10, f11, f1r, f1a, f1b, f1c, f1z⟩ := FA.out w1 (H1); have FR1 : Hid _ := f1r; clear f1r))
    (try simp only [Exit.inBlock, Exit.then])
    refine bodyPost_ret (results2_rowM rfl _ _ (W.heap.size + 1) 56 #[.slice none 0 0, .slice none 0 0, .map none] (0, 0) _ rfl (heap_setCell_rowM (heap_setCell_rowM (heap_setCell_rowM FR1.out))) hum rfl infoKi) rfl ?_
    rw [HP.out, HE.out]
    exact Or.inl ⟨h1, rfl, (((HW0.out.step (H1)).set (by omega) _ _).set (by omega) _ _).set (by omega) _ _⟩
end Go.Proofs.YtjbffhdccgmfpaaGreatDoor

/- What oven.Build answers. -/
namespace Go.Proofs.YtjbffhdccgmfpaaGreatDoor
open Go.RowKit Go.Maps
set_option linter.unusedVariables false
set_option linter.unusedSimpArgs false

theorem infoB3 : (Tryz.prog.info? 49).map (fun i => (i.zero, i.size, i.bytes)) = some (some (.agg #[.string ⟨#[]⟩, .int .i64 0, .string ⟨#[]⟩]), 3, 40) := by kernel_rfl
theorem undBs : Tryz.prog.underlying 29 = some (.slice 49) := Tryz.underlying29
/-- what Build leaves behind -/
def BuP (g : RC.Gr) (l : List O.So) (W : World) (e : Ending) (w' : World) : Prop :=
  (O.err g l ≠ 0 ∧ e = .returned (.tuple #[.slice none 0 0, .int .i64 (O.err g l : Int)]) ∧ Bl W w') ∨ (∃ a c, O.err g l = 0 ∧ e = .returned (.tuple #[.slice a g.2.length c, .int .i64 0]) ∧ RS lyB w' a (O.build g l) ∧ Bl W w')
set_option maxRecDepth 8000 in
set_option maxHeartbeats 4000000 in
theorem Build_x (g : RC.Gr) (l : List O.So) (sa : Option Addr) (sc : Nat) (aa : Option Addr) (ac : Nat) (a : Option Addr) (c : Nat) {w W : World} (hG : GW w) (hT : Tab w) (HB : Bl w W) (hg : GA W.heap.size W g sa sc aa ac) (hk : grOk g) (hv : RS lyS W a l) (hl : l.length ≤ 1000) (hln : ∀ s ∈ l, s.1.length ≤ maxLen) (hlb : ∀ s ∈ l, s.2.length ≤ 1000000) :
    Calls Tryz.prog 7 #[.agg #[.slice sa g.1.length sc, .slice aa g.2.length ac], .slice a l.length c] W (BuP g l W) := by
  have HW0 : Hid (Bl W (W.alloc (.cells #[.slice sa g.1.length sc, .slice aa g.2.length ac] 25))) := (Bl.refl W).alloc _
  have CO : Hid (Calls Tryz.prog 15 #[.agg #[.slice sa g.1.length sc, .slice aa g.2.length ac], .slice a l.length c] (W.alloc (.cells #[.slice sa g.1.length sc, .slice aa g.2.length ac] 25)) (OpP g l ⟨sa, sc, aa, ac⟩ (W.alloc (.cells #[.slice sa g.1.length sc, .slice aa g.2.length ac] 25)))) := open_x g l sa sc aa ac a c hG hT (HB.step HW0.out) (hg.bl HW0.out) hk (hv.bl HW0.out) hl hln hlb
  have HP : Hid (BuP g l W = fun e w' => (O.err g l ≠ 0 ∧ e = .returned (.tuple #[.slice none 0 0, .int .i64 (O.err g l : Int)]) ∧ Bl W w') ∨ (∃ a c, O.err g l = 0 ∧ e = .returned (.tuple #[.slice a g.2.length c, .int .i64 0]) ∧ RS lyB w' a (O.build g l) ∧ Bl W w')) := rfl
  have HGA : Hid (GA W.heap.size W g sa sc aa ac) := hg
  have HGK : Hid (grOk g) := hk
  have HGW : Hid (GW W) := hG.below HB hG.z
  by_cases h0 : O.err g l = 0
  · have HOK : Hid (O.Ok g l) := O.err_zero.1 h0
    have hle := HOK.out.good.le
    have CO2 : Hid (Calls Tryz.prog 15 #[.agg #[.slice sa g.1.length sc, .slice aa g.2.length ac], .slice a l.length c] (W.alloc (.cells #[.slice sa g.1.length sc, .slice aa g.2.length ac] 25)) fun e w' => ∃ b, e = .returned (.tuple #[.agg #[.slice sa g.1.length sc, .slice aa g.2.length ac, .map (some b)], .int .i64 0]) ∧ KM w' b (O.baked g l) ∧ (W.alloc (.cells #[.slice sa g.1.length sc, .slice aa g.2.length ac] 25)).heap.size ≤ b ∧ Bl (W.alloc (.cells #[.slice sa g.1.length sc, .slice aa g.2.length ac] 25)) w') := by
      refine CO.out.mono ?_
      rintro e w1 (⟨h, _⟩ | ⟨b, _, rfl, h1, h2, h3⟩)
      · exact absurd h0 h
      · exact ⟨b, rfl, h1, h2, h3⟩
    clear CO hG hT HB hg hk hv hln hlb
    go_enter Tryz.func7, Tryz.ntmps7
    go_wp2_with (go_at_call 15; refine CO2.out.mono ?_; clear CO2; rintro e w1 ⟨b, rfl, hKM, hb0, H1⟩)
    have HW1 : Hid (Bl W w1) := HW0.out.step H1
    have XV : KT W w1.heap.size b g ⟨sa, sc, aa, ac⟩ (O.baked g l) (w1.alloc (.cells #[.slice sa g.1.length sc, .slice aa g.2.length ac, .map (some b)] 56)) :=
      ⟨heap_alloc_new _ _, hKM.bl ((Bl.refl w1).alloc _), Below.size HW1.out, Nat.le_trans (Below.size HW0.out) hb0, HW1.out.alloc _⟩
    generalize (w1.alloc (.cells #[.slice sa g.1.length sc, .slice aa g.2.length ac, .map (some b)] 56)) = V at *
    have HXV : Hid (KT W w1.heap.size b g ⟨sa, sc, aa, ac⟩ (O.baked g l) V) := XV
    have HVV : Hid (Bl V V) := Bl.refl V
    clear XV hKM hb0 H1 HW1 HW0
    have c1v := HXV.out.c1
    simp only at c1v
    go_wp2_with fail
    go_loopw [8, 10, 24] (fun u8 u10 u24 wr => ∃ k : Nat, k ≤ g.2.length ∧ u24 = .int .i64 k ∧ (∃ a8 c8, u8 = .slice a8 k c8) ∧ wr.ownsRow V.heap.size 49 3 u8 k (flG lyB ((O.build g l).take k)) ∧ Bl V wr) (fun _ _ u24 _ => g.2.length - (intOf u24).toNat)
    case atStart => exact ⟨0, Nat.zero_le _, rfl, ⟨_, _, rfl⟩, World.ownsRow_nil _ _ _ _, HVV.out⟩
    case round =>
      obtain ⟨k, hk2, rfl, ⟨a8, c8, rfl⟩, hown, hbl⟩ := hrel
      have HOW : Hid (wr.ownsRow V.heap.size 49 3 (.slice a8 k c8) k (flG lyB ((O.build g l).take k))) := hown
      have HBR : Hid (Bl V wr) := hbl
      clear hown hbl HVV c1v
      by_cases hlt : k < g.2.length
      · obtain ⟨t, ht⟩ : ∃ t, g.2[k]? = some t := ⟨g.2[k], List.getElem?_eq_getElem hlt⟩
        obtain ⟨ab, aoff, y, c2, rfl, hab, hrg, hst⟩ := HGA.out.a k t ht
        have hgk := HGK.out.b t (List.mem_of_getElem? ht)
        have hca := RC_can HOK.out.good ht
        have hbw := HXV.out.bl.step HBR.out
        have hrw : wr.rangeAt ab (aoff + k * 3) (acL t y c2) := fun j v hv => by rw [Bl.cell hbw hab]; exact hrg j v hv
        have HN : Hid ((O.build g l).take (k + 1) = (O.build g l).take k ++ [(t.1, O.gt (O.baked g l) t.1)]) := by
          show _ = _
          rw [List.take_add_one]
          unfold O.build
          rw [List.getElem?_map, ht]; rfl
        have HKL : Hid (k = ((O.build g l).take k).length) := by show _ = _; simp [O.build]; omega
        have X1 := HXV.out.grow HBR.out
        obtain ⟨tn, ti, tc⟩ := t
        simp only at *
        have HR : Hid (wr.rangeAt ab (aoff + k * 3) [.string (M.bs tn), .slice y ti.length c2, .string (M.bs tc)]) := hrw
        have X2 := X1.grow ((Bl.refl wr).alloc (.cells #[.string (M.bs tn), .slice y ti.length c2, .string (M.bs tc)] 43))
        have k2 := X2.c2
        have hlk := X2.mp.look0 tn hgk.1
        obtain ⟨⟨rc, rb⟩, hgt⟩ : ∃ r, O.gt (O.baked g l) tn = r := ⟨_, rfl⟩
        rw [hgt] at hlk HN
        unfold resV at hlk
        simp only at hlk
        have hum : Tryz.prog.underlying 43 = some (.struct _) := Tryz.underlying43
        have hi := infoAc (tn, ti, tc) y c2
        have hbd : ∀ U, (Instr.build 49 #[(0, .agg #[.string (M.bs tn)]), (1, .agg #[.int .i64 rc, .string (M.bs rb)])]).run Tryz.prog U = .ok (.agg #[.string (M.bs tn), .int .i64 rc, .string (M.bs rb)]) U := fun U => by kernel_rfl
        have HBA : Hid (Bl V (wr.alloc (.cells #[.string (M.bs tn), .slice y ti.length c2, .string (M.bs tc)] 43))) := HBR.out.alloc _
        have HOA : Hid ((wr.alloc (.cells #[.string (M.bs tn), .slice y ti.length c2, .string (M.bs tc)] 43)).ownsRow V.heap.size 49 3 (.slice a8 k c8) k (flG lyB ((O.build g l).take k))) := ownsRow_bl HOW.out ((Bl.refl wr).alloc _)
        have HSZ : Hid ((wr.alloc (.cells #[.string (M.bs tn), .slice y ti.length c2, .string (M.bs tc)] 43)).heap.size = wr.heap.size + 1) := by show _ = _; simp
        generalize (O.build g l).take k = KS at *
        clear hrw hrg hst hgk hca hbw X1 X2 hgt ht HGA HOW
        go_wp2_with (first
          | (refine wpList_load_mid rfl 43 _ rfl ab (aoff + k * 3) rfl [.string (M.bs tn), .slice y ti.length c2, .string (M.bs tc)] _ HR.out hum rfl hi ?_)
          | (refine wl_app1G lyB (w := V) (W := wr.alloc (.cells #[.string (M.bs tn), .slice y ti.length c2, .string (M.bs tc)] 43)) 49 29 (.agg #[.string ⟨#[]⟩, .int .i64 0, .string ⟨#[]⟩]) 40 undBs infoB3 rfl (by omega) rfl _ _ rfl k KS HKL.out (tn, rc, rb) _ rfl HBA.out HOA.out (by rw [HSZ.out]; rfl) (by omega) ?_ _ rfl rfl; intro a' c' w2 h2 hb2 _))
        go_roundw
        case rel => exact ⟨k + 1, by omega, by go_num, ⟨_, _, rfl⟩, by rw [HN.out]; exact h2, hb2⟩
        case measure => simp [intOf]; omega
      · obtain rfl : k = g.2.length := by omega
        have hbl : (O.build g l).length = g.2.length := by simp [O.build]
        have HRS : Hid (RS lyB wr a8 (O.build g l)) := by
          have h := HOW.out
          rw [← hbl, List.take_length] at h
          obtain ⟨x, y, e, hrs⟩ := owns_rs lyB h
          simp only [Value.slice.injEq] at e
          rw [e.1]; exact hrs
        go_wp2_with fail
        go_ret2
        rw [HP.out]
        exact Or.inr ⟨_, _, h0, rfl, HRS.out, HXV.out.bl.step HBR.out⟩
  · have CO2 : Hid (Calls Tryz.prog 15 #[.agg #[.slice sa g.1.length sc, .slice aa g.2.length ac], .slice a l.length c] (W.alloc (.cells #[.slice sa g.1.length sc, .slice aa g.2.length ac] 25)) fun e w' => e = .returned (.tuple #[.agg #[.slice none 0 0, .slice none 0 0, .map none], .int .i64 (O.err g l : Int)]) ∧ Bl (W.alloc (.cells #[.slice sa g.1.length sc, .slice aa g.2.length ac] 25)) w') := by
      refine CO.out.mono ?_
      rintro e w1 (⟨_, rfl, h⟩ | ⟨b, h, _⟩)
      · exact ⟨rfl, h⟩
      · exact absurd h h0
    have h0i : ((O.err g l : Int) != 0) = true := by simp; omega
    clear CO hG hT HB hg hk hv hln hlb HGA HGK HGW
    go_enter Tryz.func7, Tryz.ntmps7
    go_wp2_with (go_at_call 15; refine CO2.out.mono ?_; clear CO2; rintro e w1 ⟨rfl, H1⟩)
    go_ret2
    rw [HP.out]
    exact Or.inl ⟨h0, rfl, (HW0.out.step H1).alloc _⟩
end Go.Proofs.YtjbffhdccgmfpaaGreatDoor

/- Records as values: built, compared; what is built of parts. -/
namespace Go.Proofs.YtjbffhdccgmfpaaGreatDoor
open Go.RowKit
set_option linter.unusedVariables false
set_option linter.unusedSimpArgs false

def rvL (r : V.Rc) : List Value := r.key.map vb ++ (Value.int .i64 r.code :: r.out.map vb)
def rv (r : V.Rc) : Array Value := (rvL r).toArray
/-- all lengths are a digest's -/
structure Rc32 (r : V.Rc) : Prop where
  k : r.key.length = 32
  o : r.out.length = 32
  c1 : -9223372036854775808 ≤ r.code
  c2 : r.code ≤ 9223372036854775807
theorem zd_length : V.zd.length = 32 := by simp [V.zd]
theorem zr32 : Rc32 V.zr := ⟨zd_length, zd_length, by decide, by decide⟩
theorem rvL_length {r : V.Rc} (h : Rc32 r) : (rvL r).length = 65 := by simp [rvL, h.k, h.o]
theorem vb_one (x : UInt8) : (vb x).oneCell' = true := rfl
theorem all_vb {l : List UInt8} : ∀ v ∈ l.map vb, v.oneCell' = true := fun v hv => by obtain ⟨x, _, rfl⟩ := List.mem_map.1 hv; rfl
theorem rvL_one (r : V.Rc) : ∀ v ∈ rvL r, v.oneCell' = true := fun v hv => by
  simp only [rvL, List.mem_append, List.mem_cons] at hv
  rcases hv with h | rfl | h
  · exact all_vb v h
  · rfl
  · exact all_vb v h
/-- a part of a row lies where it should -/
theorem range_part {w : World} {b : Nat} {T : TypeId} {C : Array Value} (hb : w.heap[b]? = some (.cells C T (0, 0))) (a m z : List Value) (o : Nat) (hC : C = (a ++ (m ++ z)).toArray) (ho : a.length = o) : w.rangeAt b o m := fun j v hv => by
  have hj : j < m.length := (List.getElem?_eq_some_iff.1 hv).1
  rw [cell_of_row _ _ _ _ _ _ hb, hC, List.getElem?_toArray, List.getElem?_append_right (by omega), ho, Nat.add_sub_cancel_left, List.getElem?_append_left hj]
  exact hv
theorem rv_32 {r : V.Rc} (h : Rc32 r) : (rv r)[32]? = some (.int .i64 r.code) := by
  unfold rv rvL; rw [List.getElem?_toArray, List.getElem?_append_right (by simp [h.k])]; simp [h.k]
theorem zd_dg : dg V.zd = zero32 := by unfold dg V.zd zero32; rw [List.map_replicate]; rfl
/-- a part laid into cells -/
theorem foldO_at (L : List Value) : ∀ (Z : Array Value) (off k : Nat), off + k + L.length ≤ Z.size → (L.zipIdx k).foldl (fun (cs : Array Value) (x : Value × Nat) => cs.setIfInBounds (off + x.2) x.1) Z = (Z.toList.take (off + k) ++ L ++ Z.toList.drop (off + k + L.length)).toArray := by
  induction L with
  | nil => intro Z off k h; simp
  | cons x L ih =>
    intro Z off k h
    rw [List.zipIdx_cons, List.foldl_cons, ih _ _ _ (by simp at h ⊢; omega)]
    congr 1
    simp only [List.length_cons] at h
    have hk : off + k < Z.toList.length := by simp; omega
    have e : off + (k + 1) = off + k + 1 := by omega
    rw [e, Array.toList_setIfInBounds, List.take_add_one, List.getElem?_set_self hk, List.take_set_of_le (Nat.le_refl _), List.drop_set_of_lt (by omega)]
    simp only [List.length_cons, Option.toList_some, List.append_assoc, List.cons_append, List.nil_append]
    rw [show off + k + 1 + L.length = off + k + (L.length + 1) by omega]
theorem fill_cons (place : Nat → Option (Nat × Nat)) (A M' Z' : List Value) (i : Nat) (v : Value) (rest : List (Nat × Value)) (L : List Value) (off : Nat) (hv : v.cells = L.toArray) (hp : place i = some (off, L.length)) (hA : A.length = off) (hM : M'.length = L.length) :
    Instr.fill place (A ++ M' ++ Z').toArray ((i, v) :: rest) = Instr.fill place (A ++ L ++ Z').toArray rest := by
  have hz : (A ++ M' ++ Z').toArray.size = off + L.length + Z'.length := by simp [hA, hM]; omega
  rw [Instr.fill, hp]
  simp only [hv, List.size_toArray]
  rw [if_neg (by simp [hA, hM])]
  congr 1
  have := foldO_at L (A ++ M' ++ Z').toArray off 0 (by rw [hz]; omega)
  simp only [Nat.add_zero] at this
  rw [show L.toArray.zipIdx = (L.zipIdx 0).toArray by simp]
  rw [List.foldl_toArray]
  refine this.trans ?_
  congr 1
  have e1 : (A ++ M' ++ Z').take off = A := by rw [List.append_assoc]; exact List.take_left' hA
  have e2 : (A ++ M' ++ Z').drop (off + L.length) = Z' := List.drop_left' (by simp [hA, hM])
  rw [e1, e2]
theorem run_build {P : Program} {t : TypeId} {fs : Array Field} (hu : P.underlying t = some (.struct fs)) (zero : Array Value) (hz : ∀ W, (zeroValue t).run P W = .ok (.agg zero) W) (places : Array (Nat × Nat))
    (hp : ∀ W, (fs.mapM (fun f => do pure (f.offset, ← sizeOf f.type) : Field → Sem (Nat × Nat))).run P W = .ok places W) (parts : Array (Nat × Value)) (cells : Array Value) (hf : Instr.fill (places[·]?) zero parts.toList = some cells) (W : World) :
    (Instr.build t parts).run P W = .ok (.agg cells) W := by
  unfold Instr.build
  simp only [Sem.run_bind, hz, Result.andThen_ok, run_underlying hu, hp, Value.cells, hf, Sem.run_pure]
theorem eqDgD (n : Nat) (a b : List UInt8) (ha : a.length = 32) (hb : b.length = 32) (W : World) : (Op.equalIn (n + 1 + 1) 51 (.agg (dg a)) (.agg (dg b))).run Tryz.prog W = .ok (decide (a = b)) W := by
  rw [Op.equalIn]
  simp only [Sem.run_bind, run_underlying und27, Result.andThen_ok, Tryz.sizeOf5]
  rw [Std.Legacy.Range.forIn_eq_forIn_range']
  have hl : ∀ i ∈ List.range' 0 32 1, (dg a)[i]? = some (vb (S.by8 a i)) ∧ (dg b)[i]? = some (vb (S.by8 b i)) := fun i hi => by
    have : i < 32 := by simp [List.mem_range'] at hi; omega
    exact ⟨dg_at a i (by omega), dg_at b i (by omega)⟩
  have h := eqLoop n a b (dg a) (dg b) W (List.range' 0 32 1) hl
  show ((Sem.run Tryz.prog (forIn (List.range' 0 32 1) _ _) W).andThen _) = _
  rw [h]
  by_cases he : a = b
  · subst he; simp
  · have hne : ¬ ∀ i ∈ List.range' 0 32 1, S.by8 a i = S.by8 b i := fun hall => he (eq_by8 (by omega) (fun j hj => hall j (by simp [List.mem_range']; omega)))
    rw [if_neg hne]; simp [he]
theorem part_agg {t : TypeId} {n : Nat} (ha : ∀ W, (isAgg t).run Tryz.prog W = .ok true W) (hs : ∀ W, (sizeOf t).run Tryz.prog W = .ok n W) (a m z : List Value) (o : Nat) (ho : a.length = o) (hm : m.length = n) (W : World) : (part t (a ++ (m ++ z)).toArray o).run Tryz.prog W = .ok (.agg m.toArray) W := by
  unfold part
  simp only [Sem.run_bind, ha, hs, Result.andThen_ok, if_true]
  have : ((a ++ (m ++ z)).toArray.extract o (o + n)) = m.toArray := by
    apply Array.ext'
    simp only [Array.toList_extract, List.extract_eq_take_drop]
    subst ho hm
    simp
  simp [this, ← ho, ← hm]
theorem part_one {t : TypeId} (ha : ∀ W, (isAgg t).run Tryz.prog W = .ok false W) (C : Array Value) (o : Nat) (v : Value) (h : C[o]? = some v) (W : World) : (part t C o).run Tryz.prog W = .ok v W := by
  unfold part
  simp only [Sem.run_bind, ha, Result.andThen_ok, Bool.false_eq_true, if_false, h, Sem.run_pure]
theorem rv_size {r : V.Rc} (h : Rc32 r) : (rv r).size = 65 := by simp [rv, rvL_length h]
theorem rv_one (r : V.Rc) : (rv r).all (·.oneCell') = true := by
  rw [Array.all_eq_true_iff_forall_mem]
  intro v hv
  exact rvL_one r v (by simpa [rv] using hv)
end Go.Proofs.YtjbffhdccgmfpaaGreatDoor

/- What oven.Keys answers. -/
namespace Go.Proofs.YtjbffhdccgmfpaaGreatDoor
open Go.RowKit Go.Maps
set_option linter.unusedVariables false
set_option linter.unusedSimpArgs false
attribute [local go_sem ↓] zero27

/-- digests in cells -/
def lyD : Lay (List UInt8) := ⟨32, fun d => (List.range 32).map fun i => vb (S.by8 d i), fun _ => by simp, fun x u hu => by obtain ⟨i, _, rfl⟩ := List.mem_map.1 hu; rfl, by decide⟩
theorem lyD_f {d : List UInt8} (h : d.length = 32) : lyD.f d = d.map vb := by
  show (List.range 32).map (fun i => vb (S.by8 d i)) = _
  rw [← h]
  apply List.ext_getElem?
  intro i
  by_cases hi : i < d.length
  · simp [hi, S.by8, List.getD]
  · simp [hi, List.getElem?_eq_none (Nat.le_of_not_lt hi)]
theorem dg_lyD {d : List UInt8} (h : d.length = 32) : dg d = (lyD.f d).toArray := by rw [lyD_f h]; rfl
theorem O.keyA_len (m : O.Mp) (t : RC.Ac) : (O.keyA m t).length = 32 := by
  unfold O.keyA
  split
  · simp [O.zd]
  · exact S.sha_length _
theorem wl_bs32 {ops : Array Oper} {rest : List Oper} {o : Oper} {a : Act} {w : World} {Q : Exit → Act → World → Prop} (hg : o.guard = none) (x : Operand) (ho : o.op = .buildSlice 34 1 #[(0, x)]) (d : List UInt8) (hd : d.length = 32) (hx : a.eval x = .agg (dg d))
    (h : wpList Tryz.prog ops Q rest (a.put o.dst (.slice (some ⟨w.heap.size, 0, none⟩) 1 1)) (w.alloc (.cells (dg d) 51))) : wpList Tryz.prog ops Q (o :: rest) a w := by
  obtain ⟨i, hi, hz, hs, hb⟩ : ∃ i, Tryz.prog.info? 51 = some i ∧ i.zero = some (.agg zero32) ∧ i.size = 32 ∧ i.bytes = 32 :=
    info_parts (show (Tryz.prog.info? 51).map (fun i => (i.zero, i.size, i.bytes)) = some (some (.agg zero32), 32, 32) by kernel_rfl)
  refine wpList_buildSlice hg _ 51 1 #[(0, x)] ho (dg d) i (.agg zero32) Tryz.underlying34 hi hz (by rw [hs]; decide) (by rw [hs]; decide) ?_ h
  have hp : ((#[(0, x)] : Array (Nat × Operand)).map fun (i, x) => (i, a.eval x)).toList = [(0, .agg (dg d))] := by simp [hx]
  rw [hp, hs]
  obtain ⟨Z, hZ⟩ : ∃ Z, Z = ((Array.range (1 * 32)).map ((Value.agg zero32).cells[· % (Value.agg zero32).cells.size]!)) := ⟨_, rfl⟩
  have hZs : Z.toList.length = 32 := by rw [hZ]; simp
  rw [← hZ]
  have e : Z = ([] ++ Z.toList ++ []).toArray := by simp
  rw [e, fill_cons _ [] Z.toList [] 0 _ _ (d.map vb) 0 rfl (by simp [hd]) rfl (by rw [hZs, List.length_map, hd])]
  simp [Instr.fill, dg]

theorem infoD3 : (Tryz.prog.info? 51).map (fun i => (i.zero, i.size, i.bytes)) = some (some (.agg zero32), 32, 32) := by kernel_rfl
theorem undDs : Tryz.prog.underlying 34 = some (.slice 51) := Tryz.underlying34
/-- what Keys leaves behind -/
def KeP (g : RC.Gr) (l : List O.So) (W : World) (e : Ending) (w' : World) : Prop :=
  (O.err g l ≠ 0 ∧ e = .returned (.tuple #[.slice none 0 0, .int .i64 (O.err g l : Int)]) ∧ Bl W w') ∨ (∃ a c, O.err g l = 0 ∧ e = .returned (.tuple #[.slice a g.2.length c, .int .i64 0]) ∧ RS lyD w' a (O.keys g l) ∧ Bl W w')
set_option maxRecDepth 8000 in
set_option maxHeartbeats 4000000 in
theorem Keys_x (g : RC.Gr) (l : List O.So) (sa : Option Addr) (sc : Nat) (aa : Option Addr) (ac : Nat) (a : Option Addr) (c : Nat) {w W : World} (hG : GW w) (hT : Tab w) (HB : Bl w W) (hg : GA W.heap.size W g sa sc aa ac) (hk : grOk g) (hv : RS lyS W a l) (hl : l.length ≤ 1000) (hln : ∀ s ∈ l, s.1.length ≤ maxLen) (hlb : ∀ s ∈ l, s.2.length ≤ 1000000) :
    Calls Tryz.prog 9 #[.agg #[.slice sa g.1.length sc, .slice aa g.2.length ac], .slice a l.length c] W (KeP g l W) := by
  have HW0 : Hid (Bl W (W.alloc (.cells #[.slice sa g.1.length sc, .slice aa g.2.length ac] 25))) := (Bl.refl W).alloc _
  have CO : Hid (Calls Tryz.prog 15 #[.agg #[.slice sa g.1.length sc, .slice aa g.2.length ac], .slice a l.length c] (W.alloc (.cells #[.slice sa g.1.length sc, .slice aa g.2.length ac] 25)) (OpP g l ⟨sa, sc, aa, ac⟩ (W.alloc (.cells #[.slice sa g.1.length sc, .slice aa g.2.length ac] 25)))) := open_x g l sa sc aa ac a c hG hT (HB.step HW0.out) (hg.bl HW0.out) hk (hv.bl HW0.out) hl hln hlb
  have HP : Hid (KeP g l W = fun e w' => (O.err g l ≠ 0 ∧ e = .returned (.tuple #[.slice none 0 0, .int .i64 (O.err g l : Int)]) ∧ Bl W w') ∨ (∃ a c, O.err g l = 0 ∧ e = .returned (.tuple #[.slice a g.2.length c, .int .i64 0]) ∧ RS lyD w' a (O.keys g l) ∧ Bl W w')) := rfl
  have HGA : Hid (GA W.heap.size W g sa sc aa ac) := hg
  have HGK : Hid (grOk g) := hk
  have HGW : Hid (GW W) := hG.below HB hG.z
  by_cases h0 : O.err g l = 0
  · have HOK : Hid (O.Ok g l) := O.err_zero.1 h0
    have hle := HOK.out.good.le
    have CO2 : Hid (Calls Tryz.prog 15 #[.agg #[.slice sa g.1.length sc, .slice aa g.2.length ac], .slice a l.length c] (W.alloc (.cells #[.slice sa g.1.length sc, .slice aa g.2.length ac] 25)) fun e w' => ∃ b, e = .returned (.tuple #[.agg #[.slice sa g.1.length sc, .slice aa g.2.length ac, .map (some b)], .int .i64 0]) ∧ KM w' b (O.baked g l) ∧ (W.alloc (.cells #[.slice sa g.1.length sc, .slice aa g.2.length ac] 25)).heap.size ≤ b ∧ Bl (W.alloc (.cells #[.slice sa g.1.length sc, .slice aa g.2.length ac] 25)) w') := by
      refine CO.out.mono ?_
      rintro e w1 (⟨h, _⟩ | ⟨b, _, rfl, h1, h2, h3⟩)
      · exact absurd h0 h
      · exact ⟨b, rfl, h1, h2, h3⟩
    clear CO hG hT HB hg hk hv hln hlb
    go_enter Tryz.func9, Tryz.ntmps9
    go_wp2_with (go_at_call 15; refine CO2.out.mono ?_; clear CO2; rintro e w1 ⟨b, rfl, hKM, hb0, H1⟩)
    have HW1 : Hid (Bl W w1) := HW0.out.step H1
    have XV : KT W w1.heap.size b g ⟨sa, sc, aa, ac⟩ (O.baked g l) (w1.alloc (.cells #[.slice sa g.1.length sc, .slice aa g.2.length ac, .map (some b)] 56)) :=
      ⟨heap_alloc_new _ _, hKM.bl ((Bl.refl w1).alloc _), Below.size HW1.out, Nat.le_trans (Below.size HW0.out) hb0, HW1.out.alloc _⟩
    generalize (w1.alloc (.cells #[.slice sa g.1.length sc, .slice aa g.2.length ac, .map (some b)] 56)) = V at *
    have HXV : Hid (KT W w1.heap.size b g ⟨sa, sc, aa, ac⟩ (O.baked g l) V) := XV
    have HVV : Hid (Bl V V) := Bl.refl V
    clear XV hKM hb0 H1 HW1 HW0
    have c1v := HXV.out.c1
    simp only at c1v
    go_wp2_with fail
    go_loopw [8, 10, 24] (fun u8 u10 u24 wr => ∃ k : Nat, k ≤ g.2.length ∧ u24 = .int .i64 k ∧ (∃ a8 c8, u8 = .slice a8 k c8) ∧ wr.ownsRow V.heap.size 51 32 u8 k (flG lyD ((O.keys g l).take k)) ∧ Bl V wr) (fun _ _ u24 _ => g.2.length - (intOf u24).toNat)
    case atStart => exact ⟨0, Nat.zero_le _, rfl, ⟨_, _, rfl⟩, World.ownsRow_nil _ _ _ _, HVV.out⟩
    case round =>
      obtain ⟨k, hk2, rfl, ⟨a8, c8, rfl⟩, hown, hbl⟩ := hrel
      have HOW : Hid (wr.ownsRow V.heap.size 51 32 (.slice a8 k c8) k (flG lyD ((O.keys g l).take k))) := hown
      have HBR : Hid (Bl V wr) := hbl
      clear hown hbl HVV c1v
      by_cases hlt : k < g.2.length
      · obtain ⟨t, ht⟩ : ∃ t, g.2[k]? = some t := ⟨g.2[k], List.getElem?_eq_getElem hlt⟩
        obtain ⟨ab, aoff, y, c2, rfl, hab, hrg, hst⟩ := HGA.out.a k t ht
        have hgk := HGK.out.b t (List.mem_of_getElem? ht)
        have hca := RC_can HOK.out.good ht
        have hbw := HXV.out.bl.step HBR.out
        have hrw : wr.rangeAt ab (aoff + k * 3) (acL t y c2) := fun j v hv => by rw [Bl.cell hbw hab]; exact hrg j v hv
        have HN : Hid ((O.keys g l).take (k + 1) = (O.keys g l).take k ++ [O.keyA (O.baked g l) t]) := by
          show _ = _
          rw [List.take_add_one]
          unfold O.keys
          rw [List.getElem?_map, ht]; rfl
        have HKL : Hid (k = ((O.keys g l).take k).length) := by show _ = _; simp [O.keys]; omega
        have X1 := HXV.out.grow HBR.out
        have CK : Hid (∀ U, Bl wr U → Calls Tryz.prog 18 #[.pointer (some ⟨w1.heap.size, 0, none⟩), .agg #[.string (M.bs t.1), .slice y t.2.1.length c2, .string (M.bs t.2.2)]] U fun e w' => e = .returned (.agg (dg (O.keyA (O.baked g l) t))) ∧ Bl wr w') := fun U hU => by
          refine (key_x (X1.grow hU) HGW.out t y c2 hst (by omega) hgk.2.2.1 hgk.1 (by omega) (fun s => ?_)).mono ?_
          · have := bakedN_ok HOK.out.good (l := l) (fun s hs => by have := HOK.out.blob s hs; omega) _ (Nat.le_refl _) s
            rwa [O.bakedN_all] at this
          · rintro e w' ⟨rfl, h⟩
            exact ⟨rfl, hU.step h⟩
        have hkl : (O.keyA (O.baked g l) t).length = 32 := O.keyA_len _ _
        have HDG : Hid (dg (O.keyA (O.baked g l) t) = (lyD.f (O.keyA (O.baked g l) t)).toArray) := dg_lyD hkl
        obtain ⟨tn, ti, tc⟩ := t
        simp only at *
        have HR : Hid (wr.rangeAt ab (aoff + k * 3) [.string (M.bs tn), .slice y ti.length c2, .string (M.bs tc)]) := hrw
        have hum : Tryz.prog.underlying 43 = some (.struct _) := Tryz.underlying43
        have hi := infoAc (tn, ti, tc) y c2
        have HBW : Hid (Bl wr (wr.alloc (.cells #[.string (M.bs tn), .slice y ti.length c2, .string (M.bs tc)] 43))) := (Bl.refl wr).alloc _
        generalize O.keyA (O.baked g l) (tn, ti, tc) = KY at *
        generalize (O.keys g l).take k = KS at *
        clear hrw hrg hst hgk hca hbw X1 ht HGA
        go_wp2_with (first
          | (refine wpList_load_mid rfl 43 _ rfl ab (aoff + k * 3) rfl [.string (M.bs tn), .slice y ti.length c2, .string (M.bs tc)] _ HR.out hum rfl hi ?_)
          | (go_at_call 18; refine (CK.out _ HBW.out).mono ?_; clear CK; rintro e w3 ⟨rfl, H3⟩; replace H3 : Hid (Bl wr w3) := H3)
          | (refine wl_bs32 rfl _ rfl KY hkl rfl ?_)
          | (refine wl_app1G lyD (w := V) (W := w3) 51 34 (.agg zero32) 32 undDs infoD3 zero32_size (by omega) rfl _ _ rfl k KS HKL.out KY _ rfl (HBR.out.step H3.out) (ownsRow_bl HOW.out H3.out) rfl (by omega) ?_ _ HDG.out rfl; intro a' c' w2 h2 hb2 _))
        go_roundw
        case rel => exact ⟨k + 1, by omega, by go_num, ⟨_, _, rfl⟩, by rw [HN.out]; exact h2, hb2⟩
        case measure => simp [intOf]; omega
      · obtain rfl : k = g.2.length := by omega
        have hbl : (O.keys g l).length = g.2.length := by simp [O.keys]
        have HRS : Hid (RS lyD wr a8 (O.keys g l)) := by
          have h := HOW.out
          rw [← hbl, List.take_length] at h
          obtain ⟨x, y, e, hrs⟩ := owns_rs lyD h
          simp only [Value.slice.injEq] at e
          rw [e.1]; exact hrs
        go_wp2_with fail
        go_ret2
        rw [HP.out]
        exact Or.inr ⟨_, _, h0, rfl, HRS.out, HXV.out.bl.step HBR.out⟩
  · have CO2 : Hid (Calls Tryz.prog 15 #[.agg #[.slice sa g.1.length sc, .slice aa g.2.length ac], .slice a l.length c] (W.alloc (.cells #[.slice sa g.1.length sc, .slice aa g.2.length ac] 25)) fun e w' => e = .returned (.tuple #[.agg #[.slice none 0 0, .slice none 0 0, .map none], .int .i64 (O.err g l : Int)]) ∧ Bl (W.alloc (.cells #[.slice sa g.1.length sc, .slice aa g.2.length ac] 25)) w') := by
      refine CO.out.mono ?_
      rintro e w1 (⟨_, rfl, h⟩ | ⟨b, h, _⟩)
      · exact ⟨rfl, h⟩
      · exact absurd h h0
    have h0i : ((O.err g l : Int) != 0) = true := by simp; omega
    clear CO hG hT HB hg hk hv hln hlb HGA HGK HGW
    go_enter Tryz.func9, Tryz.ntmps9
    go_wp2_with (go_at_call 15; refine CO2.out.mono ?_; clear CO2; rintro e w1 ⟨rfl, H1⟩)
    go_ret2
    rw [HP.out]
    exact Or.inl ⟨h0, rfl, (HW0.out.step H1).alloc _⟩
end Go.Proofs.YtjbffhdccgmfpaaGreatDoor
