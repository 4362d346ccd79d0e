/- V1 V2 V3 -/
import Derived.Test.YtodcafmhaleemaaDoorT14
import Derived.Test.YtodcafmhaleemaaDoorT15
import Derived.Test.YtodcafmhaleemaaDoorX3
/- The reference's width and Steps. -/
namespace Go.Proofs.YtodcafmhaleemaaDoor
open Go.RowKit
set_option linter.unusedVariables false

/-- how many bytes the step at a place has; 0: it is none -/
def rwd (code : List UInt8) (k : Nat) : Nat := match Q.stepAt code k with
  | none => 0
  | some s => s.length
def widR (c : Int) (nx : Prop) [Decidable nx] (x : Nat) : Nat :=
  if c = 99 ∨ c = 100 ∨ c = 115 ∨ c = 120 ∨ c = 114 ∨ c = 104 ∨ c = 108 ∨ c = 61 then 1 else if c = 105 ∨ c = 116 ∨ c = 107 ∨ c = 106 ∨ c = 103 then 2 else if c = 112 then (if nx then 2 + x else 0) else 0
theorem rwd_is (code : List UInt8) (k : Nat) (c : UInt8) (hc : code[k]? = some c) : rwd code k = if widR (c.toNat : Int) (k + 1 < code.length) (code.getD (k + 1) 0).toNat = 0 ∨ code.length - k < widR (c.toNat : Int) (k + 1 < code.length) (code.getD (k + 1) 0).toNat then 0 else widR (c.toNat : Int) (k + 1 < code.length) (code.getD (k + 1) 0).toNat := by
  have hk : k < code.length := (List.getElem?_eq_some_iff.1 hc).1
  have hd0 : (code.drop k)[0]? = some c := by rw [List.getElem?_drop]; exact hc
  have hdl : (code.drop k).length = code.length - k := List.length_drop
  have hd1 : (code.drop k).getD 1 0 = code.getD (k + 1) 0 := by simp only [List.getD_eq_getElem?_getD, List.getElem?_drop]
  have hne : code.drop k ≠ [] := fun e => by rw [e] at hd0; simp at hd0
  have hw := wid_is (code.drop k) c hd0
  rw [hdl, hd1] at hw
  have e : rwd code k = if Q.width (code.drop k) = 0 ∨ code.length - k < Q.width (code.drop k) then 0 else Q.width (code.drop k) := by
    unfold rwd Q.stepAt Q.first
    rw [if_neg hne, hdl]
    by_cases h : Q.width (code.drop k) = 0 ∨ code.length - k < Q.width (code.drop k)
    · rw [if_pos h, if_pos h]
    · rw [if_neg h, if_neg h]
      have h2 : ¬ code.length - k < Q.width (code.drop k) := fun x => h (Or.inr x)
      simp only [List.length_take, hdl]; omega
  rw [e, hw]
  unfold wid widR
  generalize (code.getD (k + 1) 0).toNat = x
  generalize (c.toNat : Int) = cc
  by_cases h1 : cc = 99 ∨ cc = 100 ∨ cc = 115 ∨ cc = 120 ∨ cc = 114 ∨ cc = 104 ∨ cc = 108 ∨ cc = 61
  · simp only [if_pos h1]
  · simp only [if_neg h1]
    by_cases h2 : cc = 105 ∨ cc = 116 ∨ cc = 107 ∨ cc = 106 ∨ cc = 103
    · simp only [if_pos h2]
    · simp only [if_neg h2]
      by_cases h3 : cc = 112
      · simp only [if_pos h3]
        by_cases h4 : k + 1 < code.length
        · simp only [if_pos h4, if_neg (show ¬ code.length - k < 2 by omega)]
        · simp only [if_neg h4, if_pos (show code.length - k < 2 by omega)]
          rw [if_pos (Or.inr (by omega)), if_pos (Or.inl trivial)]
      · simp only [if_neg h3]
set_option maxRecDepth 8000 in
set_option maxHeartbeats 2000000 in
theorem rwidth_at (code : List UInt8) (k : Nat) (hk : k < code.length) (hl : code.length ≤ 1000) (W : World) :
    Calls Tryd.prog 19 #[.string (M.bs code), .int .i64 (k : Int)] W fun e w' => e = .returned (.int .i64 (rwd code k : Int)) ∧ w' = W := by
  have hs := M.bs_size code
  obtain ⟨c, hc⟩ : ∃ c, code[k]? = some c := ⟨code[k], List.getElem?_eq_getElem hk⟩
  have hi := idx_at code k c hc
  have HW : Hid (rwd code k = if widR (c.toNat : Int) (k + 1 < code.length) (code.getD (k + 1) 0).toNat = 0 ∨ code.length - k < widR (c.toNat : Int) (k + 1 < code.length) (code.getD (k + 1) 0).toNat then 0 else widR (c.toNat : Int) (k + 1 < code.length) (code.getD (k + 1) 0).toNat) := rwd_is code k c hc
  have hx8 := (code.getD (k + 1) 0).toNat_lt
  have hi1 : (k : Int) + 1 < (code.length : Int) → ∀ W, (Instr.index 9 (.string (M.bs code)) (.int .i64 ((k : Int) + 1))).run Tryd.prog W = .ok (.int .u8 ((code.getD (k + 1) 0).toNat : Int)) W := fun h W => by
    have h2 : code[k + 1]? = some (code.getD (k + 1) 0) := by rw [List.getD_eq_getElem?_getD, List.getElem?_eq_getElem (by omega)]; rfl
    have := idx_at code (k + 1) _ h2 W
    rwa [show ((k + 1 : Nat) : Int) = (k : Int) + 1 by omega] at this
  generalize (code.getD (k + 1) 0).toNat = x at *
  generalize (c.toNat : Int) = cc at *
  generalize rwd code k = r at *
  clear hc
  go_enter Tryd.func19, Tryd.ntmps19
  go_wp2_with fail
  all_goals go_ret
  all_goals refine ⟨?_, rfl⟩
  all_goals (rw [HW.out]; clear HW; unfold widR)
  all_goals (refine congrArg Ending.returned (congrArg (Value.int IntKind.i64) ?_); simp only [beq_iff_eq, beq_eq_false_iff_ne, ne_eq] at *; repeat' split)
  all_goals first | rfl | omega
theorem rSteps_long (code : List UInt8) (W : World) (h : 64 < code.length) (hl : code.length ≤ 9223372036854775807) :
    Calls Tryd.prog 13 #[.string (M.bs code)] W fun e w' => e = .returned (.tuple #[.slice none 0 0, .int .i64 4]) ∧ w' = W := by
  have hs := M.bs_size code
  go_enter Tryd.func13, Tryd.ntmps13
  go_wp2_with fail
  go_ret2
  exact ⟨rfl, rfl⟩
set_option maxRecDepth 8000 in
set_option maxHeartbeats 2000000 in
theorem rSteps_at (code : List UInt8) (W : World) (hl : code.length ≤ 64) :
    Calls Tryd.prog 13 #[.string (M.bs code)] W fun e w' => StP code W e w' := by
  have hs := M.bs_size code
  obtain ⟨i0, hi, hz0, hz1, hz2⟩ := info_partsM (show (Tryd.prog.info? 9).map (fun i => (i.zero, i.size, i.bytes)) = some (some (.string ByteArray.empty), 1, 16) by kernel_rfl)
  have HOW0 : Hid ((W.alloc (.cells #[] 9)).ownsRow W.heap.size 9 1 (.slice (some ⟨W.heap.size, 0, none⟩) 0 0) ([] : List (List UInt8)).length (([] : List (List UInt8)).map encS)) := World.ownsRow_made W #[] 0 (Nat.le_refl _) (Nat.zero_le _) rfl
  have HB0 : Hid (Below W.heap.size W (W.alloc (.cells #[] 9))) := (Below.refl _ W).alloc (Nat.le_refl _) _
  have HP0 : Hid (Q.parse code = (Q.parse (code.drop 0)).map (fun l => [] ++ l)) := by
    show _ = _
    rw [List.drop_zero]
    cases Q.parse code <;> rfl
  have HI : Hid (Tryd.prog.info? 9 = some i0) := hi
  clear hi
  go_enter Tryd.func13, Tryd.ntmps13
  go_wp2_with fail
  go_loopw [4, 5, 6] (fun u4 u5 u6 wr => ∃ (k : Nat) (acc : List (List UInt8)), k ≤ code.length ∧ acc.length ≤ k ∧ u5 = .int .i64 (k : Int) ∧ wr.ownsRow W.heap.size 9 1 u4 acc.length (acc.map encS) ∧ Below W.heap.size W wr ∧ Q.parse code = (Q.parse (code.drop k)).map (fun l => acc ++ l)) (fun _ u5 _ _ => code.length - (intOf u5).toNat)
  case atStart => exact ⟨0, [], by omega, by simp, rfl, HOW0.out, HB0.out, HP0.out⟩
  case round =>
    obtain ⟨k, acc, hk, hak, rfl, hown, hbe, hpar⟩ := hrel
    clear HOW0 HP0 HB0
    by_cases hlt : k < code.length
    · have hne : code.drop k ≠ [] := fun e => by have := congrArg List.length e; rw [List.length_drop] at this; simp at this; omega
      have hq : (k : Int) < (code.length : Int) := by omega
      have CS : Hid (∀ W, Calls Tryd.prog 19 #[.string (M.bs code), .int .i64 (k : Int)] W fun e w' => e = .returned (.int .i64 (rwd code k : Int)) ∧ w' = W) := fun W => rwidth_at code k hlt (by omega) W
      have hex : ∀ z : Nat, (M.bs code).extract k (k + z) = M.bs ((code.drop k).take z) := fun z => by rw [cut_bs]; congr 3; omega
      rw [Q.parse_cons hne] at hpar
      have HBE : Hid (Below W.heap.size W wr) := hbe
      have hszw := hbe.size
      unfold rwd Q.stepAt at CS
      cases hst : Q.first (code.drop k) with
      | none =>
        rw [hst] at CS hpar
        simp only at CS
        have HN : Hid (Q.parse code = none) := hpar
        clear hpar hst hne hown hbe hex
        go_wp2_with (go_at_call 19; refine (CS.out _).mono ?_; rintro e w' ⟨rfl, rfl⟩)
        go_ret2
        exact StP.none HN.out HBE.out
      | some s =>
        have hsl := (Q.first_some hst).2.1
        have hs0 := Q.first_len hst
        rw [List.length_drop] at hsl
        rw [hst] at CS hpar
        simp only at CS
        have hexs : (M.bs code).extract k (k + s.length) = M.bs s := by rw [hex s.length]; congr 1; exact (Q.first_some hst).2.2.symm
        have q0 : ((s.length : Int) == 0) = false := beq_eq_false_iff_ne.2 (by omega)
        simp only [List.drop_drop] at hpar
        have HPN : Hid (Q.parse code = (Q.parse (code.drop (k + s.length))).map (fun l => (acc ++ [s]) ++ l)) := by
          show _ = _
          rw [hpar]
          cases Q.parse (code.drop (k + s.length)) <;> simp
        have hbs := M.bs_size s
        have HOW2 : Hid ((wr.alloc (.cells #[.string (M.bs s)] 9)).ownsRow W.heap.size 9 1 u4 acc.length (acc.map encS)) := World.ownsRow.alloc (w := wr) hown _
        have HBE2 : Hid (Below W.heap.size W (wr.alloc (.cells #[.string (M.bs s)] 9))) := HBE.out.alloc hszw _
        have HLT : Hid (∀ q, u4.ownBlock = some q → W.heap.size ≤ q) := fun q hq => (hown.lt q hq).1
        clear hpar hst hne hown hbe HBE hex
        go_wp2_with (first
          | (go_at_call 19; refine (CS.out _).mono ?_; clear CS; rintro e w' ⟨rfl, rfl⟩)
          | (at_builtin; refine wpList_append_own _ rfl _ _ 22 rfl W.heap.size 9 i0 (.string ByteArray.empty) 1 16 Tryd.underlying22 HI.out hz0 hz1 hz2 rfl (by decide) _ _ _ rfl HOW2.out ⟨_, 0, none⟩ 1 1 [.string (M.bs s)] rfl rfl (cell_one_new _ _ _) (fun x hx => by simp at hx; subst hx; rfl) (by unfold maxLen; omega) (by omega) (by simp; omega) ?_; intro v' w5 hown5 hg5 _
             have HB5 : Hid (Below W.heap.size W w5) := HBE2.out.grown hg5 (by simp; omega) (fun q hq => HLT.out q hq)
             have HO5 : Hid (w5.ownsRow W.heap.size 9 1 v' (acc ++ [s]).length ((acc ++ [s]).map encS)) := by
               show World.ownsRow _ _ _ _ _ _ _
               rw [List.map_append, List.length_append]; exact hown5
             clear hown5 hg5 HBE2 HOW2 HLT))
        go_roundw
        case rel => exact ⟨k + s.length, acc ++ [s], by omega, by simp; omega, by go_num, HO5.out, HB5.out, HPN.out⟩
        case measure => simp [intOf]; omega
    · obtain rfl : k = code.length := by omega
      rw [List.drop_of_length_le (Nat.le_refl _), Q.parse_nil] at hpar
      have HN : Hid (Q.parse code = some acc) := by
        show _ = _
        rw [hpar]; simp
      have HST : Hid (Strs wr.heap.size wr u4 acc) := strs_of_owns hown
      obtain ⟨a, c, rfl⟩ : ∃ a c, u4 = .slice a acc.length c := HST.out.shape
      have HCP : Hid (acc.length ≤ c) := owns_capM hown
      have HBE : Hid (Below W.heap.size W wr) := hbe
      clear hown hpar hbe
      go_wp2_with fail
      go_ret2
      exact StP.some HN.out HST.out HCP.out HBE.out
end Go.Proofs.YtodcafmhaleemaaDoor
/- Of the reference: bytes, digits, pop; appends of texts. -/
namespace Go.Proofs.YtodcafmhaleemaaDoor
open Go.RowKit
set_option linter.unusedVariables false
set_option linter.unusedSimpArgs false

set_option maxRecDepth 8000 in
set_option maxHeartbeats 2000000 in
theorem rbytes_m (d : List UInt8) (hd : d.length = 32) (w : World) :
    Calls Tryd.prog 52 #[.agg (dg d)] w fun e w' => e = .returned (.string (M.bs d)) ∧ Below w.heap.size w w' := by
  have HB1 : Hid (Below w.heap.size w (w.alloc (.cells (dg d) 37))) := (Below.refl _ w).alloc (Nat.le_refl _) _
  have HN1 : Hid ((w.alloc (.cells (dg d) 37)).heap[w.heap.size]? = some (.cells (dg d) 37 (0, 0))) := heap_alloc_new _ _
  have H10 : Hid ((w.alloc (.cells (dg d) 37)).heap.size = w.heap.size + 1) := by show _ = _; simp
  have HDA : Hid (∀ k y, d[k]? = some y → (dg d)[k]? = some (vb y)) := fun k y h => by unfold dg; rw [List.getElem?_toArray, List.getElem?_map, h]; rfl
  generalize dg d = DA at *
  go_enter Tryd.func52, Tryd.ntmps52
  go_wp2_with fail
  generalize w.alloc (.cells DA 37) = W1 at *
  obtain ⟨n, hn⟩ : ∃ n, n = w.heap.size := ⟨_, rfl⟩
  rw [← hn] at HB1 HN1 H10 ⊢
  have HNW : Hid (w.heap.size = n) := hn.symm
  clear hn
  have HO1 : Hid ((W1.alloc (.cells #[] 5)).ownsRow (n + 1) 5 1 (.slice (some ⟨W1.heap.size, 0, none⟩) 0 0) 0 ((d.map vb).take 0)) := by
    have := World.ownsRow_made (base := n + 1) (e := 5) (size := 1) W1 #[] 0 (by rw [H10.out]; omega) (by simp [maxLen]) rfl
    exact this
  have HB2 : Hid (Below (n + 1) W1 (W1.alloc (.cells #[] 5))) := (Below.refl _ _).alloc (by rw [H10.out]; omega) _
  have h1n : W1.heap.size = n + 1 := H10.out
  rw [h1n] at HO1
  try rw [h1n]
  have H1N : Hid (W1.heap.size = n + 1) := h1n
  have HC1 : Hid (∀ W k y, Below (n + 1) W1 W → d[k]? = some y → W.cell? ⟨n, k, none⟩ = some (vb y)) := fun W k y hW h => by
    rw [hW.cell (p := ⟨n, k, none⟩) (show n < n + 1 by omega), cell_of_row _ _ k DA _ _ HN1.out]; exact HDA.out k y h
  generalize W1.alloc (.cells #[] 5) = W2 at *
  clear h1n
  go_loopw [3, 4] (fun u3 u4 wr => ∃ k : Nat, k ≤ 32 ∧ u4 = .int .i64 k ∧ wr.ownsRow (n + 1) 5 1 u3 k ((d.map vb).take k) ∧ Below (n + 1) W1 wr) (fun _ u4 _ => 32 - (intOf u4).toNat)
  case atStart => exact ⟨0, by omega, rfl, HO1.out, HB2.out⟩
  case round =>
    clear HO1 HB2
    obtain ⟨k, hk, rfl, hown, hbe⟩ := hrel
    have HOW : Hid (wr.ownsRow (n + 1) 5 1 u3 k ((d.map vb).take k)) := hown
    have HBE : Hid (Below (n + 1) W1 wr) := hbe
    have hsz : n + 1 ≤ wr.heap.size := by have := hbe.size; have := H1N.out; omega
    clear hown hbe
    by_cases hlt : k < 32
    · obtain ⟨y, hy⟩ : ∃ y, d[k]? = some y := ⟨d[k]'(by omega), List.getElem?_eq_getElem _⟩
      have HTS : Hid ((d.map vb).take (k + 1) = (d.map vb).take k ++ [vb y]) := by
        show _ = _
        rw [List.take_add_one, List.getElem?_map, hy]; rfl
      have hcell := HC1.out wr k y HBE.out hy
      have hkl : (k : Int) < 32 := by omega
      have hk0 : (0 : Int) ≤ (k : Int) := by omega
      clear hy
      obtain ⟨i0, hi, hz0', hz1, hz2⟩ := info_partsX (show (Tryd.prog.info? 5).map (fun i => (i.zero, i.size, i.bytes)) = some (some (.int .u8 0), 1, 1) by kernel_rfl)
      have NEWS : Hid (∀ q u, [vb y][q]? = some u → (wr.alloc (.cells #[vb y] 5)).cell? ((⟨wr.heap.size, 0, none⟩ : Addr).add q) = some u) := World.news_of_block (cs := #[vb y]) (heap_alloc_new wr _)
      have OWN : Hid ((wr.alloc (.cells #[vb y] 5)).ownsRow (n + 1) 5 1 u3 k ((d.map vb).take k)) := World.ownsRow.alloc (w := wr) HOW.out _
      have HLT : Hid (∀ q, u3.ownBlock = some q → n + 1 ≤ q) := fun q hq => (HOW.out.lt q hq).1
      have hb1 : Hid (Below (n + 1) W1 (wr.alloc (.cells #[vb y] 5))) := HBE.out.alloc hsz _
      go_wp2_with (at_builtin; refine wpList_append_lies _ rfl _ _ 35 rfl (n + 1) 5 i0 (.int .u8 0) 1 1 Tryd.underlying35 hi hz0' hz1 hz2 rfl (by decide) _ k _ rfl OWN.out ⟨wr.heap.size, 0, none⟩ 1 1 [vb y] rfl rfl NEWS.out (fun u hu => by simp at hu; subst hu; rfl) (by decide) (by unfold maxLen; omega) (by omega) (by simp; omega) (wr.heap.size + 1) (by simp) ?_)
      intro g cap' w9 hown9 hgrow9 hat9 hlt9
      have HO9 : Hid (w9.ownsRow (n + 1) 5 1 (.slice (some ⟨g, 0, none⟩) (k + 1) cap') (k + 1) ((d.map vb).take (k + 1))) := by rw [HTS.out]; exact hown9
      have HB9 : Hid (Below (n + 1) W1 w9) := hb1.out.grown hgrow9 (by simp; omega) (fun q hq => HLT.out q hq)
      clear hown9 hgrow9 hat9 hb1
      go_wp2_with fail
      go_roundw
      case rel => exact ⟨k + 1, by omega, by go_num, HO9.out, HB9.out⟩
      case measure => first | (simp [intOf]; omega) | simp [intOf]
    · obtain rfl : k = 32 := by omega
      have hcv : ∃ g cap, u3 = .slice (some ⟨g, 0, none⟩) 32 cap ∧ (convert 35 9 u3).run Tryd.prog wr = .ok (.string (M.bs d)) wr := by
        obtain ⟨h0, ⟨_, h2⟩ | ⟨g, cap, cur, h1, h2, h3, h4, h5, h6, h7⟩⟩ := HOW.out
        · omega
        · refine ⟨g, cap, h1, ?_⟩
          rw [h1]
          have hfull : (d.map vb).take 32 = d.map vb := by rw [List.take_of_length_le (by simp; omega)]
          have := run_convert_bytes_back (P := Tryd.prog) wr 35 9 5 ⟨g, 0, none⟩ cap d Tryd.underlying35 Tryd.underlying5 Tryd.underlying9 (fun j hj => by
            rw [Addr.add_mid, Nat.zero_add, Lib.cell_of_heap h3]
            have h8 : (cur.toList.take (32 * 1))[j]? = ((d.map vb).take 32)[j]? := by rw [h7]
            rw [List.getElem?_take_of_lt (by omega), hfull, List.getElem?_map, List.getElem?_eq_getElem hj] at h8
            rw [Array.getElem?_toList] at h8
            simpa [vb] using h8)
          rw [hd] at this
          exact this
      obtain ⟨g, cap, rfl, hcv⟩ := hcv
      go_wp2_with fail
      go_ret
      rw [HNW.out]
      exact ⟨rfl, HB1.out.trans (HBE.out.mono (by omega))⟩


theorem rBytes_m (d : List UInt8) (hd : d.length = 32) (w : World) :
    Calls Tryd.prog 29 #[.agg (dg d)] w fun e w' => e = .returned (.string (M.bs d)) ∧ Below w.heap.size w w' := by
  have CB : Hid (∀ W, Calls Tryd.prog 52 #[.agg (dg d)] W fun e w' => e = .returned (.string (M.bs d)) ∧ Below W.heap.size W w') := fun W => rbytes_m d hd W
  have hsz : (dg d).size = 32 := by rw [dg_size, hd]
  have HR : Hid ((w.alloc (.cells (dg d) 37)).heap[w.heap.size]? = some (.cells (dg d) 37 (0, 0))) := heap_alloc_new _ _
  have HB1 : Hid (Below w.heap.size w (w.alloc (.cells (dg d) 37))) := (Below.refl _ w).alloc (Nat.le_refl _) _
  generalize dg d = D at *
  go_enter Tryd.func29, Tryd.ntmps29
  go_wp2_with (first
    | (refine wpList_load_row rfl 37 _ rfl _ rfl 37 D (0, 0) _ HR.out und27 rfl (by rw [hsz]; exact info27) ?_)
    | (go_at_call 52; refine (CB.out _).mono ?_; clear CB; rintro e w' ⟨rfl, hb⟩; have HB2 : Hid (Below w.heap.size w w') := HB1.out.trans (hb.mono HB1.out.size); clear hb))
  go_ret
  exact ⟨rfl, HB2.out⟩
theorem und9m : Tryd.prog.underlying 22 = some (.slice 9) := Tryd.underlying22
/-- texts are appended to a row of one's own -/
theorem wl_appM {ops : Array Oper} {rest : List Oper} {o : Oper} {a : Act} {w : World} {Q : Exit → Act → World → Prop} (hgd : o.guard = none) (s x : Operand)
    (ho : o.op = .call { callee := .builtin .append, args := #[s, x], argTypes := #[22, 22] }) (base : Nat) (ks : List (List UInt8)) (v : Value) (hs : a.eval s = v) (hown : w.ownsRow base 9 1 v ks.length (ks.map encS))
    (ad : Option Addr) (l : List (List UInt8)) (c : Nat) (hx : a.eval x = .slice ad l.length c) (hl : TX w ad l) (hbase : base ≤ w.heap.size) (hn : ks.length + l.length ≤ 100000)
    (h : ∀ v' w', w'.ownsRow base 9 1 v' (ks ++ l).length ((ks ++ l).map encS) → w.grownBy w' v.ownBlock → (v'.ownBlock = v.ownBlock ∨ v'.ownBlock = some w.heap.size) → wpList Tryd.prog ops Q rest (a.put o.dst v') w') : wpList Tryd.prog ops Q (o :: rest) a w := by
  obtain ⟨i0, hi0, hz0, hz1, hz2⟩ := info_partsM (show (Tryd.prog.info? 9).map (fun i => (i.zero, i.size, i.bytes)) = some (some (.string ⟨#[]⟩), 1, 16) by kernel_rfl)
  by_cases h0 : l = []
  · subst h0
    refine wpList_plain hgd fun K hK => ?_
    have hrun : (Builtin.append_ #[22, 22] o.type #[v, .slice ad 0 c]).run Tryd.prog w = .ok v w := by
      have hld : ∀ a : Addr, (loadCells a 0).run Tryd.prog w = .ok #[] w := fun a => by simp [loadCells, loadCellsFrom]
      rcases hown.2 with ⟨rfl, hh⟩ | ⟨g, cap, cur, rfl, _, _, hnc, _⟩ <;> cases ad
      · simp [Builtin.append_, run_underlying und9m, sizeOf, typeInfo, hi0, Builtin.lenOf, Builtin.firstCells, hh]
      · simp [Builtin.append_, run_underlying und9m, sizeOf, typeInfo, hi0, Builtin.lenOf, Builtin.firstCells, hh, hld]
      · simp [Builtin.append_, run_underlying und9m, sizeOf, typeInfo, hi0, Builtin.lenOf, Builtin.firstCells, hnc, storeCells]
      · simp [Builtin.append_, run_underlying und9m, sizeOf, typeInfo, hi0, Builtin.lenOf, Builtin.firstCells, hnc, storeCells, hld]
    have hK' := hK _ _ (h v w (by simpa using hown) ⟨rfl, rfl, rfl, Nat.le_refl _, fun _ _ _ => rfl⟩ (.inl rfl))
    have hx' : a.eval x = .slice ad 0 c := hx
    unfold Oper.wp
    simp [execOp, ho, resolve, invoke, builtin, hs, hx', hrun, Result.andThen]
    exact hK'
  · have hpos : 0 < l.length := List.length_pos_iff.2 h0
    obtain ⟨t0, ht0⟩ : ∃ t0, l[0]? = some t0 := ⟨l[0], List.getElem?_eq_getElem hpos⟩
    obtain ⟨sb, off, rfl, _, _⟩ := hl 0 t0 ht0
    refine wpList_append_lies _ hgd s x 22 ho base 9 i0 (.string ⟨#[]⟩) 1 16 und9m hi0 hz0 hz1 hz2 rfl (by decide) v ks.length (ks.map encS) hs hown ⟨sb, off, none⟩ l.length c (l.map encS) hx (by simp) (fun j u hu => ?_) (fun u hu => by obtain ⟨t, _, rfl⟩ := List.mem_map.1 hu; rfl) hpos (by unfold maxLen; omega) (by omega) hbase w.heap.size rfl (fun g cap w' h1 h2 h3 h4 => ?_)
    · rw [Addr.add_mid]
      rw [List.getElem?_map] at hu
      cases hp : l[j]? with
      | none => rw [hp] at hu; simp at hu
      | some t =>
        rw [hp] at hu
        simp only [Option.map_some, Option.some.injEq] at hu
        subst hu
        obtain ⟨sb', off', e, _, hc⟩ := hl j t hp
        cases e
        exact hc
    · have hv : (.slice (some ⟨g, 0, none⟩) (ks.length + l.length) cap : Value).ownBlock = some g := rfl
      refine h _ w' (by rw [List.length_append, List.map_append]; exact h1) h2 ?_
      rw [hv]
      rcases h3 with h3 | h3
      · exact .inl h3.symm
      · exact .inr (by rw [h3])


theorem dig_cut : ∀ n : Fin 10, (⟨#[48, 49, 50, 51, 52, 53, 54, 55, 56, 57]⟩ : ByteArray).extract n.val (n.val + 1) = M.bs [UInt8.ofNat (48 + n.val)] := by decide +kernel
theorem digits_1 (n : Nat) (h : n < 10) (W : World) : Calls Tryd.prog 31 #[.int .i64 (n : Int)] W fun e w' => e = .returned (.string (M.bs (Lib.decDigits n))) ∧ ∃ k, w' = W.drewN k := by
  have hc := dig_cut ⟨n, h⟩
  simp only at hc
  rw [Lib.decDigits_one h]
  generalize M.bs [UInt8.ofNat (48 + n)] = B1 at *
  have hsz : (⟨#[48, 49, 50, 51, 52, 53, 54, 55, 56, 57]⟩ : ByteArray).size = 10 := rfl
  go_enter Tryd.func31, Tryd.ntmps31
  go_wp2_with fail
  go_ret
  exact ⟨rfl, 0, rfl⟩
set_option maxRecDepth 8000 in
set_option maxHeartbeats 1000000 in
theorem digits_up0 (n q r : Nat) (L1 : List UInt8) (B2 B3 : ByteArray) (h1 : ¬ n < 10) (h2 : n ≤ 1000000) (hq : n / 10 = q) (hr : n % 10 = r) (hd : ∀ W, Calls Tryd.prog 31 #[.int .i64 (q : Int)] W fun e w' => e = .returned (.string (M.bs L1)) ∧ ∃ k, w' = W.drewN k) (hsl : L1.length ≤ 100)
    (hc : (⟨#[48, 49, 50, 51, 52, 53, 54, 55, 56, 57]⟩ : ByteArray).extract r (r + 1) = B2) (s2 : B2.size = 1) (happ : M.bs L1 ++ B2 = B3) (W : World) :
    Calls Tryd.prog 31 #[.int .i64 (n : Int)] W fun e w' => e = .returned (.string B3) ∧ ∃ k, w' = W.drewN k := by
  have hsz : (⟨#[48, 49, 50, 51, 52, 53, 54, 55, 56, 57]⟩ : ByteArray).size = 10 := rfl
  have s1 := M.bs_size L1
  have CD : Hid (∀ W, Calls Tryd.prog 31 #[.int .i64 (q : Int)] W fun e w' => e = .returned (.string (M.bs L1)) ∧ ∃ k, w' = W.drewN k) := hd
  have q1 : Int.tdiv (n : Int) 10 = (q : Int) := by rw [Int.tdiv_eq_ediv_of_nonneg (by omega)]; omega
  have q2 : Int.tmod (n : Int) 10 = (r : Int) := by rw [Int.tmod_eq_emod_of_nonneg (by omega)]; omega
  have hlt : r < 10 := by omega
  have hql : q ≤ 1000000 := by omega
  have hr1 : (r : Int) + 1 ≤ 10 := by omega
  have hr0 : (0 : Int) ≤ (r : Int) := by omega
  have w1 : IntKind.i64.wrap ((r : Int) + 1) = (r : Int) + 1 := by simp only [IntKind.wrap, IntKind.bits, IntKind.signed]; simp; omega
  have w2 : IntKind.i64.wrap (r : Int) = (r : Int) := by simp only [IntKind.wrap, IntKind.bits, IntKind.signed]; simp; omega
  have w3 : IntKind.i64.wrap (q : Int) = (q : Int) := by simp only [IntKind.wrap, IntKind.bits, IntKind.signed]; simp; omega
  generalize M.bs L1 = B1 at *
  clear hd hq hr
  go_enter Tryd.func31, Tryd.ntmps31
  go_wp2_with fail
  go_quiet ((go_at_call 31; exact Calls.quiet_of (CD.out _)))
  go_wp2_with fail
  go_ret
  exact ⟨rfl, _, rfl⟩
theorem digits_up (n : Nat) (h1 : ¬ n < 10) (h2 : n ≤ 1000000) (hd : ∀ W, Calls Tryd.prog 31 #[.int .i64 ((n / 10 : Nat) : Int)] W fun e w' => e = .returned (.string (M.bs (Lib.decDigits (n / 10)))) ∧ ∃ k, w' = W.drewN k) (hsl : (Lib.decDigits (n / 10)).length ≤ 100) (W : World) :
    Calls Tryd.prog 31 #[.int .i64 (n : Int)] W fun e w' => e = .returned (.string (M.bs (Lib.decDigits n))) ∧ ∃ k, w' = W.drewN k := by
  have e : Lib.decDigits n = Lib.decDigits (n / 10) ++ [UInt8.ofNat (48 + n % 10)] := by rw [Lib.decDigits, dif_neg h1]
  rw [e]
  exact digits_up0 n (n / 10) (n % 10) (Lib.decDigits (n / 10)) (M.bs [UInt8.ofNat (48 + n % 10)]) _ h1 h2 rfl rfl hd hsl (dig_cut ⟨n % 10, by omega⟩) (M.bs_size _) (bs_append _ _) W
theorem digits_m (n : Nat) (h : n ≤ 512) (W : World) : Calls Tryd.prog 31 #[.int .i64 (n : Int)] W fun e w' => e = .returned (.string (M.bs (Lib.decDigits n))) ∧ ∃ k, w' = W.drewN k := by
  have dl : ∀ m : Nat, m < 1000 → (Lib.decDigits m).length ≤ 100 := fun m hm => by
    rw [Lib.decDigits_length]
    by_cases h1 : m < 10
    · rw [Lib.nDigits_small h1]; omega
    · rw [Lib.nDigits_big h1]
      by_cases h2 : m / 10 < 10
      · rw [Lib.nDigits_small h2]; omega
      · rw [Lib.nDigits_big h2, Lib.nDigits_small (by omega)]; omega
  have d2 : ∀ m : Nat, m < 100 → ∀ W, Calls Tryd.prog 31 #[.int .i64 (m : Int)] W fun e w' => e = .returned (.string (M.bs (Lib.decDigits m))) ∧ ∃ k, w' = W.drewN k := fun m hm W => by
    by_cases h1 : m < 10
    · exact digits_1 m h1 W
    · exact digits_up m h1 (by omega) (fun W => digits_1 (m / 10) (by omega) W) (dl _ (by omega)) W
  by_cases h1 : n < 10
  · exact digits_1 n h1 W
  · exact digits_up n h1 (by omega) (fun W => d2 (n / 10) (by omega) W) (dl _ (by omega)) W
theorem pop_105 (W : World) : Calls Tryd.prog 28 #[.int .u8 105] W fun e w' => e = .returned (.tuple #[.int .i64 0, .int .i64 1]) ∧ w' = W := by
  go_enter Tryd.func28, Tryd.ntmps28
  go_wp2_with fail
  go_ret2
  exact ⟨rfl, rfl⟩
theorem pop_112 (W : World) : Calls Tryd.prog 28 #[.int .u8 112] W fun e w' => e = .returned (.tuple #[.int .i64 0, .int .i64 1]) ∧ w' = W := by
  go_enter Tryd.func28, Tryd.ntmps28
  go_wp2_with fail
  go_ret2
  exact ⟨rfl, rfl⟩
theorem pop_99 (W : World) : Calls Tryd.prog 28 #[.int .u8 99] W fun e w' => e = .returned (.tuple #[.int .i64 2, .int .i64 1]) ∧ w' = W := by
  go_enter Tryd.func28, Tryd.ntmps28
  go_wp2_with fail
  go_ret2
  exact ⟨rfl, rfl⟩
theorem pop_61 (W : World) : Calls Tryd.prog 28 #[.int .u8 61] W fun e w' => e = .returned (.tuple #[.int .i64 2, .int .i64 1]) ∧ w' = W := by
  go_enter Tryd.func28, Tryd.ntmps28
  go_wp2_with fail
  go_ret2
  exact ⟨rfl, rfl⟩
theorem pop_115 (W : World) : Calls Tryd.prog 28 #[.int .u8 115] W fun e w' => e = .returned (.tuple #[.int .i64 2, .int .i64 2]) ∧ w' = W := by
  go_enter Tryd.func28, Tryd.ntmps28
  go_wp2_with fail
  go_ret2
  exact ⟨rfl, rfl⟩
theorem pop_100 (W : World) : Calls Tryd.prog 28 #[.int .u8 100] W fun e w' => e = .returned (.tuple #[.int .i64 1, .int .i64 2]) ∧ w' = W := by
  go_enter Tryd.func28, Tryd.ntmps28
  go_wp2_with fail
  go_ret2
  exact ⟨rfl, rfl⟩
theorem pop_120 (W : World) : Calls Tryd.prog 28 #[.int .u8 120] W fun e w' => e = .returned (.tuple #[.int .i64 1, .int .i64 0]) ∧ w' = W := by
  go_enter Tryd.func28, Tryd.ntmps28
  go_wp2_with fail
  go_ret2
  exact ⟨rfl, rfl⟩
theorem pop_106 (W : World) : Calls Tryd.prog 28 #[.int .u8 106] W fun e w' => e = .returned (.tuple #[.int .i64 1, .int .i64 0]) ∧ w' = W := by
  go_enter Tryd.func28, Tryd.ntmps28
  go_wp2_with fail
  go_ret2
  exact ⟨rfl, rfl⟩
theorem pop_103 (W : World) : Calls Tryd.prog 28 #[.int .u8 103] W fun e w' => e = .returned (.tuple #[.int .i64 0, .int .i64 0]) ∧ w' = W := by
  go_enter Tryd.func28, Tryd.ntmps28
  go_wp2_with fail
  go_ret2
  exact ⟨rfl, rfl⟩
theorem pop_114 (W : World) : Calls Tryd.prog 28 #[.int .u8 114] W fun e w' => e = .returned (.tuple #[.int .i64 1, .int .i64 1]) ∧ w' = W := by
  go_enter Tryd.func28, Tryd.ntmps28
  go_wp2_with fail
  go_ret2
  exact ⟨rfl, rfl⟩
theorem pop_104 (W : World) : Calls Tryd.prog 28 #[.int .u8 104] W fun e w' => e = .returned (.tuple #[.int .i64 1, .int .i64 1]) ∧ w' = W := by
  go_enter Tryd.func28, Tryd.ntmps28
  go_wp2_with fail
  go_ret2
  exact ⟨rfl, rfl⟩
theorem pop_108 (W : World) : Calls Tryd.prog 28 #[.int .u8 108] W fun e w' => e = .returned (.tuple #[.int .i64 1, .int .i64 1]) ∧ w' = W := by
  go_enter Tryd.func28, Tryd.ntmps28
  go_wp2_with fail
  go_ret2
  exact ⟨rfl, rfl⟩
theorem pop_116 (W : World) : Calls Tryd.prog 28 #[.int .u8 116] W fun e w' => e = .returned (.tuple #[.int .i64 1, .int .i64 1]) ∧ w' = W := by
  go_enter Tryd.func28, Tryd.ntmps28
  go_wp2_with fail
  go_ret2
  exact ⟨rfl, rfl⟩
theorem pop_107 (W : World) : Calls Tryd.prog 28 #[.int .u8 107] W fun e w' => e = .returned (.tuple #[.int .i64 1, .int .i64 1]) ∧ w' = W := by
  go_enter Tryd.func28, Tryd.ntmps28
  go_wp2_with fail
  go_ret2
  exact ⟨rfl, rfl⟩
end Go.Proofs.YtodcafmhaleemaaDoor
/- Appends of texts to a row of one's own; what the reference's step answers. -/
namespace Go.Proofs.YtodcafmhaleemaaDoor
open Go.RowKit
set_option linter.unusedVariables false
set_option linter.unusedSimpArgs false

theorem wl_appB {ops : Array Oper} {rest : List Oper} {o : Oper} {a : Act} {w : World} {Q : Exit → Act → World → Prop} (hgd : o.guard = none) (s x : Operand)
    (ho : o.op = .call { callee := .builtin .append, args := #[s, x], argTypes := #[22, 22] }) (base : Nat) (ks : List (List UInt8)) (g0 n0 c0 : Nat) (hs : a.eval s = .slice (some ⟨g0, 0, none⟩) n0 c0) (hown : w.ownsRow base 9 1 (.slice (some ⟨g0, 0, none⟩) n0 c0) ks.length (ks.map encS))
    (ad : Option Addr) (l : List (List UInt8)) (c m N : Nat) (hm : l.length = m) (hN : ks.length + m = N) (hx : a.eval x = .slice ad m c) (hl : TX w ad l) (hbase : base ≤ w.heap.size) (hn : N ≤ 100000)
    (h : ∀ g' c' w', w'.ownsRow base 9 1 (.slice (some ⟨g', 0, none⟩) N c') (ks ++ l).length ((ks ++ l).map encS) → Below base w w' → wpList Tryd.prog ops Q rest (a.put o.dst (.slice (some ⟨g', 0, none⟩) N c')) w') : wpList Tryd.prog ops Q (o :: rest) a w := by
  subst hm
  refine wl_appM hgd s x ho base ks _ hs hown ad l c hx hl hbase (by omega) fun v' w' h1 h2 h3 => ?_
  have hb : Below base w w' := (Below.refl base w).grown h2 hbase (fun q hq => (hown.lt q hq).1)
  have h1' := h1
  have e : (ks ++ l).length = N := by rw [List.length_append]; exact hN
  obtain ⟨_, ⟨h4, _⟩ | ⟨g', c', cur, h4, _⟩⟩ := h1
  · subst h4
    rcases h3 with h3 | h3 <;> cases h3
  · subst h4
    rw [e] at h1'
    have := h g' c' w'
    rw [e] at this ⊢
    exact this h1' hb
/-- a stack (the top first) as the reference has it -/
structure LS (W : World) (g c : Nat) (st : List (List UInt8)) : Prop where
  b : g < W.heap.size
  c : st.length ≤ c
  t : TX W (some ⟨g, 0, none⟩) st.reverse
theorem LS.of {W : World} {N g c n : Nat} {l st : List (List UInt8)} (h : W.ownsRow N 9 1 (.slice (some ⟨g, 0, none⟩) n c) l.length (l.map encS)) (hst : l = st.reverse) (hn : n = st.length) : LS W g c st := by
  subst hst
  have hn' : n = st.reverse.length := by rw [hn, List.length_reverse]
  clear hn
  subst hn'
  have h' := h
  obtain ⟨_, ⟨h4, _⟩ | ⟨g', c', cur, h4, h5, h6, h7, _⟩⟩ := h
  · cases h4
  · simp only [Value.slice.injEq, Option.some.injEq, Addr.mk.injEq] at h4
    obtain ⟨⟨rfl, _⟩, _, rfl⟩ := h4
    exact ⟨lt_of_heapM h6, by simpa using h7, strs_at (strs_of_owns h')⟩
theorem LS.below {W W' : World} {g c : Nat} {st : List (List UInt8)} (h : LS W g c st) (hb : Below W.heap.size W W') : LS W' g c st :=
  ⟨Nat.lt_of_lt_of_le h.b hb.size, h.c, fun i t ht => by
    obtain ⟨sb, off, h1, h2, h3⟩ := h.t i t ht
    exact ⟨sb, off, h1, by have := hb.size; omega, by rw [hb.cell (p := ⟨sb, off + i, none⟩) h2]; exact h3⟩⟩
theorem LS.at {W : World} {g c : Nat} {st : List (List UInt8)} (h : LS W g c st) {i : Nat} {t : List UInt8} (ht : st.reverse[i]? = some t) : W.cell? ⟨g, i, none⟩ = some (.string (M.bs t)) := by
  obtain ⟨sb, off, h1, h2, h3⟩ := h.t i t ht
  simp only [Option.some.injEq, Addr.mk.injEq] at h1
  obtain ⟨rfl, rfl, _⟩ := h1
  simpa using h3
theorem TX.belowM {W W' : World} {a : Option Addr} {l : List (List UInt8)} (h : TX W a l) (hb : Below W.heap.size W W') : TX W' a l := fun i t ht => by
  obtain ⟨sb, off, h1, h2, h3⟩ := h i t ht
  exact ⟨sb, off, h1, by have := hb.size; omega, by rw [hb.cell (p := ⟨sb, off + i, none⟩) h2]; exact h3⟩
theorem TX.pre {W : World} {a : Option Addr} {l m : List (List UInt8)} (h : TX W a (l ++ m)) : TX W a l := fun i t ht => h i t (by rw [List.getElem?_append_left (List.getElem?_eq_some_iff.1 ht).1]; exact ht)
/-- what the reference's step answers -/
def RP (R : Nat × List (List UInt8)) (to : Int) (W : World) (e : Ending) (w' : World) : Prop :=
  (R.1 = 0 → ∃ g c, e = .returned (.tuple #[.slice (some ⟨g, 0, none⟩) R.2.length c, .int .i64 to, .int .i64 0]) ∧ LS w' g c R.2) ∧ (R.1 ≠ 0 → e = .returned (.tuple #[.slice none 0 0, .int .i64 (-1), .int .i64 (R.1 : Int)])) ∧ Below W.heap.size W w'
theorem RP.err {R : Nat × List (List UInt8)} {to : Int} {W w' : World} {k : Nat} (h : R.1 = k) (hk : k ≠ 0) (hb : Below W.heap.size W w') : RP R to W (.returned (.tuple #[.slice none 0 0, .int .i64 (-1), .int .i64 (k : Int)])) w' :=
  ⟨fun h0 => absurd (h.symm.trans h0) hk, fun _ => by rw [h], hb⟩
theorem RP.ok {R : Nat × List (List UInt8)} {to : Int} {W w' : World} {g c : Nat} {st : List (List UInt8)} (h : R = (0, st)) (hl : LS w' g c st) (hb : Below W.heap.size W w') : RP R to W (.returned (.tuple #[.slice (some ⟨g, 0, none⟩) st.length c, .int .i64 to, .int .i64 0])) w' :=
  ⟨fun _ => ⟨g, c, by rw [h], by rw [h]; exact hl⟩, fun h0 => absurd (by rw [h]) h0, hb⟩
theorem own0 (W : World) : (W.alloc (.cells #[] 9)).ownsRow W.heap.size 9 1 (.slice (some ⟨W.heap.size, 0, none⟩) 0 0) ([] : List (List UInt8)).length (([] : List (List UInt8)).map encS) := World.ownsRow_made W #[] 0 (Nat.le_refl _) (Nat.zero_le _) rfl
theorem len_is (t : List UInt8) : Q.len t = Lib.decDigits t.length := by
  unfold Q.len Lib.itoa
  rw [if_neg (by omega)]; rfl
theorem len_512 (t : List UInt8) (h : t.length ≤ 512) : (Q.len t).length ≤ 512 := by
  rw [len_is, Lib.decDigits_length]
  generalize t.length = u at *
  by_cases h1 : u < 10
  · rw [Lib.nDigits_small h1]; omega
  · rw [Lib.nDigits_big h1]
    by_cases h2 : u / 10 < 10
    · rw [Lib.nDigits_small h2]; omega
    · rw [Lib.nDigits_big h2, Lib.nDigits_small (by omega)]; omega
theorem put0 {st : List (List UInt8)} {t : List UInt8} (h : st.length < 8) (h2 : t.length ≤ 512) : Q.put st t = (0, t :: st) := by unfold Q.put; rw [if_neg (by omega), if_neg (by omega)]
theorem put31 {st : List (List UInt8)} {t : List UInt8} (h : 8 ≤ st.length) : (Q.put st t).1 = 31 := by unfold Q.put; rw [if_pos h]
theorem put33 {st : List (List UInt8)} {t : List UInt8} (h : st.length < 8) (h2 : 512 < t.length) : (Q.put st t).1 = 33 := by unfold Q.put; rw [if_neg (by omega), if_pos h2]
theorem rev_succ (a : List UInt8) (k : Nat) (x : UInt8) (h : a[k]? = some x) : (a.take (k + 1)).reverse = [x] ++ (a.take k).reverse := by
  rw [List.take_add_one, h]; simp
theorem cut_one (a : List UInt8) (k : Nat) (x : UInt8) (h : a[k]? = some x) : (M.bs a).extract k (k + 1) = M.bs [x] := by
  rw [cut_bs, show k + 1 - k = 1 by omega]
  congr 1
  have hk : k < a.length := (List.getElem?_eq_some_iff.1 h).1
  rw [List.drop_eq_getElem_cons hk]
  rw [List.getElem?_eq_getElem hk] at h
  simp [Option.some.inj h]
theorem tx_one (W : World) (t : List UInt8) (T : TypeId) : TX (W.alloc (.cells #[.string (M.bs t)] T)) (some ⟨W.heap.size, 0, none⟩) [t] := fun i u hu => by
  refine ⟨W.heap.size, 0, rfl, by simp, ?_⟩
  rcases i with _ | i
  · simp at hu; subst hu; exact cell_new1 _ _ _
  · simp at hu
end Go.Proofs.YtodcafmhaleemaaDoor
