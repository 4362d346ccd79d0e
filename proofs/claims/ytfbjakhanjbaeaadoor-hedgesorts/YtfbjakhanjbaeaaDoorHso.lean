/- HedgeSorts: records as they stand rise by their keys, one of each key, the first of its key. -/
import Derived.Test.YtfbjakhanjbaeaaDoorHgU
import Derived.Test.YtfbjakhanjbaeaaDoorHqa
namespace Go.Proofs.YtfbjakhanjbaeaaDoor
open Go.RowKit Go.Maps Go.Sort Go.Shelf Go.Lib
set_option linter.unusedVariables false
set_option linter.unusedSimpArgs false

namespace HG
theorem srt_key (l : List R) (y : R) (c : List UInt8) (h : l.find? (fun u => decide (u.k = c)) = some y) : (srt l).filter (fun u => decide (u.k = c)) = [y] := by
  have hy : y.k = c := by simpa using List.find?_some h
  refine rise_uniq _ _ ((srt_rise l).filter _) (List.pairwise_singleton _ _) fun z => ?_
  rw [List.mem_filter, srt_mem, List.mem_singleton, decide_eq_true_eq]
  constructor
  · rintro ⟨h1, h2⟩
    rw [h2, h] at h1
    exact (Option.some.inj h1).symm
  · rintro rfl
    rw [hy]; exact ⟨h, rfl⟩
/-- how many of the first j have a key -/
def cntK (s : List R) (c : List UInt8) (j : Nat) : Nat := ((s.take j).filter fun u => decide (u.k = c)).length
/-- whether the last of these is x -/
def isK (s : List R) (x : R) (j : Nat) : Bool := match ((s.take j).filter fun u => decide (u.k = x.k)).getLast? with | none => false | some y => eqR y x
/-- whether none of the first j has x's key -/
def fstK (l : List R) (x : R) (j : Nat) : Bool := (l.take j).all fun u => !decide (u.k = x.k)
theorem cntK_succ (s : List R) (c : List UInt8) (j : Nat) (y : R) (h : s[j]? = some y) : cntK s c (j + 1) = cntK s c j + (if y.k = c then 1 else 0) := by
  unfold cntK; rw [List.take_add_one, h]
  by_cases e : y.k = c <;> simp [e]
theorem isK_succ (s : List R) (x : R) (j : Nat) (y : R) (h : s[j]? = some y) : isK s x (j + 1) = if y.k = x.k then eqR y x else isK s x j := by
  unfold isK; rw [List.take_add_one, h]
  by_cases e : y.k = x.k <;> simp [e]
theorem fstK_succ (l : List R) (x : R) (j : Nat) (y : R) (h : l[j]? = some y) : fstK l x (j + 1) = (fstK l x j && !decide (y.k = x.k)) := by
  unfold fstK; rw [List.take_add_one, h]; simp
theorem one_key (l : List R) (x : R) (hx : x ∈ l) : cntK (srt l) x.k (srt l).length = 1 := by
  cases h : l.find? (fun u => decide (u.k = x.k)) with
  | none => have := List.find?_eq_none.1 h x hx; simp at this
  | some y => unfold cntK; rw [List.take_length, srt_key l y x.k h]; rfl
theorem first_is (l : List R) (i : Nat) (x : R) (hi : l[i]? = some x) (hf : fstK l x i = true) : isK (srt l) x (srt l).length = true := by
  have hlt := (List.getElem?_eq_some_iff.1 hi).1
  have h : l.find? (fun u => decide (u.k = x.k)) = some x := by
    have hs : l = l.take i ++ (x :: l.drop (i + 1)) := by
      have e := (List.getElem?_eq_some_iff.1 hi).2
      have := List.drop_eq_getElem_cons hlt
      rw [e] at this
      rw [← this, List.take_append_drop]
    rw [hs, List.find?_append]
    have h1 : (l.take i).find? (fun u => decide (u.k = x.k)) = none := by
      rw [List.find?_eq_none]
      intro u hu
      have := List.all_eq_true.1 hf u hu
      simpa using this
    rw [h1]; simp
  unfold isK
  rw [List.take_length, srt_key l x x.k h]
  exact (eqR_iff x x).2 rfl
theorem srt_pos (l : List R) : (srt l).length = 0 ↔ l.length = 0 := by
  constructor
  · intro h
    cases l with
    | nil => rfl
    | cons x l =>
      have := one_key (x :: l) x (by simp)
      have e : srt (x :: l) = [] := List.length_eq_zero_iff.1 h
      rw [e] at this; simp [cntK] at this
  · intro h
    rw [List.length_eq_zero_iff.1 h]; rfl
end HG
theorem yi_eqlS {P : Program} {ops : Array Oper} {S : World → Prop} {o : Oper} {a : Act} {t : TypeId} {x y : Operand} {q} {xs ys : Array Value} {b : Bool} (hw : Region.wanted o (yielded ops a.tmps) = true) (ho : o.op = .binOp .eql t x y q) (hx : a.eval x = .agg xs) (hy : a.eval y = .agg ys) (hm : P.eqGuardType P.depth t = false) (he : ∀ w, (Op.equalIn 10000 t (.agg xs) (.agg ys)).run P w = .ok b w) : YieldsIf P ops S o (.bool b) a :=
  .inl ⟨hw, fun w _ => by
    unfold execOp; simp only [ho, hx, hy, Sem.run_bind, run_eqGuard_agg (hm := hm), run_eql_struct, he, Result.andThen_ok, Sem.run_pure]⟩
theorem gERc : Tryd.prog.eqGuardType Tryd.prog.depth 48 = false := by kernel_rfl
/-- what a slice says of its i-th record -/
theorem SL.at' {W : World} {a : Option Addr} {n c : Nat} {l : List HG.R} (h : RS lyR W a l) {i : Nat} {x : HG.R} (hi : l[i]? = some x) : ∃ b off, a = some ⟨b, off, none⟩ ∧ b < W.heap.size ∧ W.rangeAt b (off + i * 65) (fR x) ∧ W.rangeAt b (off + i * 65) (x.k.map vb) := by
  obtain ⟨b, off, e1, e2, e3⟩ := h i x hi
  refine ⟨b, off, e1, e2, e3, fun j v hv => e3 j v ?_⟩
  show (fR x)[j]? = some v
  unfold fR
  rw [List.getElem?_append_left (List.getElem?_eq_some_iff.1 hv).1]; exact hv
set_option maxHeartbeats 2000000 in
set_option maxRecDepth 8000 in
theorem so_long (l : List HG.R) (v : Value) (w : World) (hG : GW w) (hv : SL w v l) (hl : 80 < l.length) : Calls Tryd.prog 6 #[v] w fun e w' => e = .returned (.bool true) ∧ Bl w w' := by
  obtain ⟨a, c, rfl, hrs, hnn⟩ := hv
  have CA := hidI (awake_15 w hG)
  obtain ⟨n, hn⟩ : ∃ n, n = l.length := ⟨_, rfl⟩
  rw [← hn] at hl ⊢
  have hlz : (n : Int) > 80 := by omega
  clear hG hrs hnn hn
  go_enter Tryd.func6, Tryd.ntmps6
  go_wp2_with (first | go_skip | (go_at_call 8; refine CA.out.mono ?_; clear CA; rintro e w1 ⟨rfl, b1⟩))
  go_ret
  exact ⟨rfl, b1⟩
set_option maxHeartbeats 8000000 in
set_option maxRecDepth 8000 in
theorem so_main (l : List HG.R) (v : Value) (w : World) (hG : GW w) (hv : SL w v l) (hl : l.length ≤ 80) : Calls Tryd.prog 6 #[v] w fun e w' => e = .returned (.bool true) ∧ Bl w w' := by
  have CA := hidI (awake_15 w hG)
  have CS := hidI (fun U (h : Bl w U) => Sort_x l v U (hv.bl h) (by omega))
  obtain ⟨a, c, rfl, hrs, hnn⟩ := hv
  obtain ⟨s, hs⟩ : ∃ s, s = HG.srt l := ⟨_, rfl⟩
  rw [← hs] at CS
  have hsl : s.length ≤ l.length := by rw [hs]; exact HG.srt_len l
  have HRISE : Hid (∀ i x y, s[i]? = some x → s[i + 1]? = some y → ltB x.k y.k = true) := fun i x y h1 h2 => by
    have := HG.srt_rise l
    rw [← hs] at this
    obtain ⟨e1, e2⟩ := List.getElem?_eq_some_iff.1 h1
    obtain ⟨e3, e4⟩ := List.getElem?_eq_some_iff.1 h2
    have := List.pairwise_iff_getElem.1 this i (i + 1) e1 e3 (by omega)
    rw [e2, e4] at this; exact this
  have HONE : Hid (∀ i x, l[i]? = some x → HG.cntK s x.k s.length = 1 ∧ (HG.fstK l x i = true → HG.isK s x s.length = true)) := fun i x h => by
    rw [hs]; exact ⟨HG.one_key l x (List.mem_of_getElem? h), HG.first_is l i x h⟩
  have HPOS : Hid (s.length = 0 ↔ l.length = 0) := by show _ ↔ _; rw [hs]; exact HG.srt_pos l
  have HLS : Hid (∀ U v', SL U v' s → ∃ a c, v' = .slice a s.length c ∧ RS lyR U a s) := fun U v' h => by
    obtain ⟨a, c, e, h1, _⟩ := h; exact ⟨a, c, e, h1⟩
  have CL : Hid (∀ (x y : HG.R) U, Calls Tryd.prog 25 #[.agg (x.k.map vb).toArray, .agg (y.k.map vb).toArray] U fun e w' => e = .returned (.bool (ltB x.k y.k)) ∧ Gn U w') := fun x y U => Less_gn x.k y.k x.hk y.hk U
  have HEK : Hid (∀ (x y : HG.R) U, (Op.equalIn 10000 24 (.agg (x.k.map vb).toArray) (.agg (y.k.map vb).toArray)).run Tryd.prog U = .ok (decide (x.k = y.k)) U) := fun x y U => eqDg x.k y.k x.hk y.hk U
  have HER : Hid (∀ (x y : HG.R) U, (Op.equalIn 10000 48 (.agg (fR x).toArray) (.agg (fR y).toArray)).run Tryd.prog U = .ok (eqR x y) U) := fun x y U => eqRec x y U
  have HIK : Hid (∀ x : HG.R, (Tryd.prog.info? 24).map (·.size) = some (x.k.map vb).length) := fun x => by rw [List.length_map, x.hk]; exact info27
  have HIR := hidI (fun x => one_infoR x)
  have HRL := hidI hrs
  obtain ⟨fs, huR0⟩ := undRc
  have huR := hidI huR0
  clear huR0
  obtain ⟨n, hn⟩ : ∃ n, n = l.length := ⟨_, rfl⟩
  have HN := hidI hn
  have HSL := hidI hsl
  rw [← hn] at hl hsl CS ⊢
  have hlz : ¬ (n : Int) > 80 := by omega
  clear hG hrs hnn hn hs
  go_enter Tryd.func6, Tryd.ntmps6
  go_wp2_with (first
    | go_skip
    | (go_at_call 8; refine CA.out.mono ?_; clear CA; rintro e w1 ⟨rfl, b1⟩; have HB1 := hidI b1; clear b1)
    | (go_at_call 17; refine (CS.out _ HB1.out).mono ?_; clear CS; rintro e w3 ⟨v3, rfl, o3, b3⟩; have HB3 := hidI (bl_tr HB1.out b3); obtain ⟨a3, c3, rfl, r3⟩ := HLS.out _ _ (sl_own o3); have HR3 := hidI r3; clear b3 o3 r3 HB1))
  obtain ⟨m, hm⟩ : ∃ m, m = s.length := ⟨_, rfl⟩
  have HM := hidI hm
  have hmn : m ≤ n := by omega
  rw [← hm]
  clear hm hsl
  go_loopw [4] (fun u wr => ∃ i : Nat, 1 ≤ i ∧ i ≤ m + 1 ∧ u = .int .i64 i ∧ Bl w3 wr) (fun u _ => m - (intOf u).toNat)
  case atStart => exact ⟨1, Nat.le_refl _, by omega, rfl, Bl.refl w3⟩
  case round =>
    as_aux_lemma =>
    obtain ⟨i, hi1, him, rfl, hb⟩ := hrel
    have HB := hidI hb
    clear hb
    by_cases hlt : i < m
    · have hltz : (i : Int) < (m : Int) := by omega
      obtain ⟨j, rfl⟩ : ∃ j, i = j + 1 := ⟨i - 1, by omega⟩
      obtain ⟨x, hx⟩ : ∃ x, s[j]? = some x := ⟨s[j]'(by have := HM.out; omega), List.getElem?_eq_getElem (by have := HM.out; omega)⟩
      obtain ⟨y, hy⟩ : ∃ y, s[j + 1]? = some y := ⟨s[j + 1]'(by have := HM.out; omega), List.getElem?_eq_getElem (by have := HM.out; omega)⟩
      have hlt2 := HRISE.out j x y hx hy
      obtain ⟨b, off, rfl, hbl, _, rx⟩ := SL.at' (n := m) (c := c3) HR3.out hx
      obtain ⟨b', off', e', _, _, ry⟩ := SL.at' (n := m) (c := c3) HR3.out hy
      obtain ⟨rfl, rfl⟩ : b = b' ∧ off = off' := by simpa using e'
      have C1 := hidI (CL.out x y)
      rw [hlt2] at C1
      have I1 := hidI (HIK.out x)
      have I2 := hidI (HIK.out y)
      have HQ : Hid (∀ U, Bl wr U → U.rangeAt b (off + j * 65) (x.k.map vb) ∧ U.rangeAt b (off + (j + 1) * 65) (y.k.map vb)) := fun U h => ⟨Bl.range (bl_tr HB.out h) hbl rx, Bl.range (bl_tr HB.out h) hbl ry⟩
      have hc1 : ((j + 1 : Nat) : Int) = (j : Int) + 1 := by omega
      have hw1 : IntKind.i64.wrap ((j : Int) + 1 - 1) = (j : Int) := by rw [IntKind.wrap_i64]; omega
      have hw2 : IntKind.i64.wrap (j : Int) = (j : Int) := by rw [IntKind.wrap_i64]; omega
      have hw3 : (j : Int) + 1 - 1 = (j : Int) := by omega
      have q1 : (j : Int) < (m : Int) := by omega
      have q2 : (j : Int) + 1 < (m : Int) := by omega
      have q3 : (0 : Int) ≤ (j : Int) + 1 := by omega
      have q4 : ((j : Int) + 1).toNat = j + 1 := by omega
      clear hx hy hlt2 rx ry e'
      generalize x.k.map vb = KX at *
      generalize y.k.map vb = KY at *
      go_upto_region 9 with (first | go_skip)
      refine wp_region_noPanic ?_
      refine wp_region_held_drew (S := fun U => Bl wr U) (by kernel_rfl) (((Bl.refl wr).drew)) (fun hHeld => ?_)
      refine wpAnyH_take (i := 0) rfl (by kernel_rfl) (by kernel_rfl) (by kernel_rfl) (fun _ _ _ h => h) (yi_move (by kernel_rfl) rfl rfl) (by assumption) ?_
      simp only [Act.put, List.getElem_toArray, List.getElem_cons_succ, List.getElem_cons_zero, List.setIfInBounds_toArray, List.set_cons_zero, List.set_cons_succ, Act.eval, Array.getD_eq_getD_getElem?, List.getElem?_toArray, List.getElem?_cons_succ, List.getElem?_cons_zero, Option.getD_some]
      refine wpAnyH_take (i := 1) rfl (by kernel_rfl) (by kernel_rfl) (by kernel_rfl) (fun _ _ _ h => h) (yi_move (by kernel_rfl) rfl rfl) (by assumption) ?_
      simp only [Act.put, List.getElem_toArray, List.getElem_cons_succ, List.getElem_cons_zero, List.setIfInBounds_toArray, List.set_cons_zero, List.set_cons_succ, Act.eval, Array.getD_eq_getD_getElem?, List.getElem?_toArray, List.getElem?_cons_succ, List.getElem?_cons_zero, Option.getD_some]
      refine wpAnyH_take (i := 2) (v := ?_) rfl (by kernel_rfl) (by kernel_rfl) (by kernel_rfl) (fun _ _ _ h => h) (Or.inl ⟨by kernel_rfl, ?_⟩) (by assumption) ?_
      rotate_left
      · (intro w hSw; (try dsimp only at hSw); go_simp; (try with_reducible rfl))
      simp only [Act.put, List.getElem_toArray, List.getElem_cons_succ, List.getElem_cons_zero, List.setIfInBounds_toArray, List.set_cons_zero, List.set_cons_succ, Act.eval, Array.getD_eq_getD_getElem?, List.getElem?_toArray, List.getElem?_cons_succ, List.getElem?_cons_zero, Option.getD_some]
      refine wpAnyH_take (i := 3) (v := ?_) rfl (by kernel_rfl) (by kernel_rfl) (by kernel_rfl) (fun _ _ _ h => h) (Or.inl ⟨by kernel_rfl, ?_⟩) (by assumption) ?_
      rotate_left
      · (intro w hSw; (try dsimp only at hSw); go_simp; (try with_reducible rfl))
      simp only [Act.put, List.getElem_toArray, List.getElem_cons_succ, List.getElem_cons_zero, List.setIfInBounds_toArray, List.set_cons_zero, List.set_cons_succ, Act.eval, Array.getD_eq_getD_getElem?, List.getElem?_toArray, List.getElem?_cons_succ, List.getElem?_cons_zero, Option.getD_some]
      refine wpAnyH_take (i := 4) (v := ?_) rfl (by kernel_rfl) (by kernel_rfl) (by kernel_rfl) (fun _ _ _ h => h) (Or.inl ⟨by kernel_rfl, ?_⟩) (by assumption) ?_
      rotate_left
      · (intro w hSw; (try dsimp only at hSw); go_simp; (try with_reducible rfl))
      simp only [Act.put, List.getElem_toArray, List.getElem_cons_succ, List.getElem_cons_zero, List.setIfInBounds_toArray, List.set_cons_zero, List.set_cons_succ, Act.eval, Array.getD_eq_getD_getElem?, List.getElem?_toArray, List.getElem?_cons_succ, List.getElem?_cons_zero, Option.getD_some]
      refine wpAnyH_take (i := 5) (v := .agg (List.toArray KX)) rfl (by kernel_rfl) (by kernel_rfl) (by kernel_rfl) (fun _ _ _ h => h) (yieldsIf_load_mid (by kernel_rfl) _ (.tmp 28) (by kernel_rfl) b (off + j * 65) (by kernel_rfl) KX _ (fun W hW => (HQ.out _ hW).1) und27 rfl I1.out) (by assumption) ?_
      simp only [Act.put, List.getElem_toArray, List.getElem_cons_succ, List.getElem_cons_zero, List.setIfInBounds_toArray, List.set_cons_zero, List.set_cons_succ, Act.eval, Array.getD_eq_getD_getElem?, List.getElem?_toArray, List.getElem?_cons_succ, List.getElem?_cons_zero, Option.getD_some]
      refine wpAnyH_take (i := 6) rfl (by kernel_rfl) (by kernel_rfl) (by kernel_rfl) (fun _ _ _ h => h) (yi_move (by kernel_rfl) rfl rfl) (by assumption) ?_
      simp only [Act.put, List.getElem_toArray, List.getElem_cons_succ, List.getElem_cons_zero, List.setIfInBounds_toArray, List.set_cons_zero, List.set_cons_succ, Act.eval, Array.getD_eq_getD_getElem?, List.getElem?_toArray, List.getElem?_cons_succ, List.getElem?_cons_zero, Option.getD_some]
      refine wpAnyH_take (i := 7) rfl (by kernel_rfl) (by kernel_rfl) (by kernel_rfl) (fun _ _ _ h => h) (yi_move (by kernel_rfl) rfl rfl) (by assumption) ?_
      simp only [Act.put, List.getElem_toArray, List.getElem_cons_succ, List.getElem_cons_zero, List.setIfInBounds_toArray, List.set_cons_zero, List.set_cons_succ, Act.eval, Array.getD_eq_getD_getElem?, List.getElem?_toArray, List.getElem?_cons_succ, List.getElem?_cons_zero, Option.getD_some]
      refine wpAnyH_take (i := 8) (v := ?_) rfl (by kernel_rfl) (by kernel_rfl) (by kernel_rfl) (fun _ _ _ h => h) (Or.inl ⟨by kernel_rfl, ?_⟩) (by assumption) ?_
      rotate_left
      · (intro w hSw; (try dsimp only at hSw); go_simp; (try with_reducible rfl))
      simp only [Act.put, List.getElem_toArray, List.getElem_cons_succ, List.getElem_cons_zero, List.setIfInBounds_toArray, List.set_cons_zero, List.set_cons_succ, Act.eval, Array.getD_eq_getD_getElem?, List.getElem?_toArray, List.getElem?_cons_succ, List.getElem?_cons_zero, Option.getD_some]
      refine wpAnyH_take (i := 9) (v := ?_) rfl (by kernel_rfl) (by kernel_rfl) (by kernel_rfl) (fun _ _ _ h => h) (Or.inl ⟨by kernel_rfl, ?_⟩) (by assumption) ?_
      rotate_left
      · (intro w hSw; (try dsimp only at hSw); go_simp; (try with_reducible rfl))
      simp only [Act.put, List.getElem_toArray, List.getElem_cons_succ, List.getElem_cons_zero, List.setIfInBounds_toArray, List.set_cons_zero, List.set_cons_succ, Act.eval, Array.getD_eq_getD_getElem?, List.getElem?_toArray, List.getElem?_cons_succ, List.getElem?_cons_zero, Option.getD_some]
      refine wpAnyH_take (i := 10) (v := .agg (List.toArray KY)) rfl (by kernel_rfl) (by kernel_rfl) (by kernel_rfl) (fun _ _ _ h => h) (yieldsIf_load_mid (by kernel_rfl) _ (.tmp 33) (by kernel_rfl) b (off + (j + 1) * 65) (by kernel_rfl) KY _ (fun W hW => (HQ.out _ hW).2) und27 rfl I2.out) (by assumption) ?_
      simp only [Act.put, List.getElem_toArray, List.getElem_cons_succ, List.getElem_cons_zero, List.setIfInBounds_toArray, List.set_cons_zero, List.set_cons_succ, Act.eval, Array.getD_eq_getD_getElem?, List.getElem?_toArray, List.getElem?_cons_succ, List.getElem?_cons_zero, Option.getD_some]
      refine wpAnyH_ready (rs := [11]) (by kernel_rfl) (by simp) ?_
      refine AllReadyH.cons (o := _) rfl (fun K hK => ?_) AllReadyH.nil
      go_simp
      go_at_call 25; refine (C1.out _).mono ?_; rintro e V12 ⟨rfl, hV12⟩; have HB12 := ((Bl.refl wr).drew).step (gn_bl hV12); clear hV12
      (try clear hHeld)
      refine hK.out _ _ ((HB12)) (fun hHeld => ?_)
      clear hK K
      (try simp only [Act.put, List.getElem_toArray, List.getElem_cons_succ, List.getElem_cons_zero, List.setIfInBounds_toArray, List.set_cons_zero, List.set_cons_succ, Act.eval, Array.getD_eq_getD_getElem?, List.getElem?_toArray, List.getElem?_cons_succ, List.getElem?_cons_zero, Option.getD_some])
      refine wpAnyH_take (i := 12) (v := ?_) rfl (by kernel_rfl) (by kernel_rfl) (by kernel_rfl) (fun _ _ _ h => h) (Or.inl ⟨by kernel_rfl, ?_⟩) (by assumption) ?_
      rotate_left
      · (intro w hSw; (try dsimp only at hSw); go_simp; (try with_reducible rfl))
      simp only [Act.put, List.getElem_toArray, List.getElem_cons_succ, List.getElem_cons_zero, List.setIfInBounds_toArray, List.set_cons_zero, List.set_cons_succ, Act.eval, Array.getD_eq_getD_getElem?, List.getElem?_toArray, List.getElem?_cons_succ, List.getElem?_cons_zero, Option.getD_some]
      refine wpAnyH_done (by kernel_rfl) ?_ _
      refine NoPanic.normal ?_
      go_wp2_with fail
      go_roundw
      case rel => exact ⟨j + 2, by omega, by omega, by first | rfl | go_num, bl_tr HB.out (HB12)⟩
      case measure => simp [intOf]; omega
    · have hltz : ¬ (i : Int) < (m : Int) := by omega
      clear CL HRISE hi1 him hlt
      go_wp2_with fail
      go_loopw [5, 6, 7, 8, 9, 10] (fun u _ _ _ _ _ wr => ∃ i : Nat, i ≤ n ∧ u = .int .i64 i ∧ Bl w3 wr) (fun u _ _ _ _ _ _ => n - (intOf u).toNat)
      case atStart => exact ⟨0, Nat.zero_le _, rfl, HB.out⟩
      case round =>
        as_aux_lemma =>
        obtain ⟨i, hin, rfl, hb⟩ := hrel
        have HB := hidI hb
        clear hb
        by_cases hlt : i < n
        · have hiz : (i : Int) < (n : Int) := by omega
          obtain ⟨x, hx⟩ : ∃ x, l[i]? = some x := ⟨l[i]'(by have := HN.out; omega), List.getElem?_eq_getElem (by have := HN.out; omega)⟩
          obtain ⟨b, off, rfl, hbl, rfx, rx⟩ := SL.at' (n := n) (c := c) HRL.out hx
          obtain ⟨hone, hfst⟩ := HONE.out i x hx
          have HONE2 := hidI (And.intro hone hfst)
          have HX : Hid (∀ U, Bl w3 U → U.rangeAt b (off + i * 65) (fR x) ∧ U.rangeAt b (off + i * 65) (x.k.map vb)) := fun U h => ⟨Bl.range (bl_tr HB3.out h) hbl rfx, Bl.range (bl_tr HB3.out h) hbl rx⟩
          have IX := hidI (HIK.out x)
          have IRX := hidI (HIR.out x)
          have HF0 : Hid (HG.fstK l x 0 = true) := rfl
          have HC0 : Hid (HG.cntK s x.k 0 = 0) := rfl
          have HI0 : Hid (HG.isK s x 0 = false) := rfl
          clear hone hfst rfx rx hbl HONE
          go_wp2_with fail
          go_loopw [6, 7] (fun u6 u7 wr => ∃ j : Nat, j ≤ i ∧ u6 = .bool (HG.fstK l x j) ∧ u7 = .int .i64 j ∧ Bl w3 wr) (fun _ u7 _ => i - (intOf u7).toNat)
          case atStart => exact ⟨0, Nat.zero_le _, by rw [HF0.out], rfl, HB.out⟩
          case round =>
            as_aux_lemma =>
            obtain ⟨j, hji, rfl, rfl, hb⟩ := hrel
            have HB := hidI hb
            clear hb
            by_cases hjl : j < i
            · have hjz : (j : Int) < (i : Int) := by omega
              have hjn : (j : Int) < (n : Int) := by omega
              obtain ⟨y, hy⟩ : ∃ y, l[j]? = some y := ⟨l[j]'(by have := HN.out; omega), List.getElem?_eq_getElem (by have := HN.out; omega)⟩
              obtain ⟨b', off', e', hbl, _, ry⟩ := SL.at' (n := n) (c := c) HRL.out hy
              obtain ⟨rfl, rfl⟩ : b = b' ∧ off = off' := by simpa using e'
              have hs1 := HG.fstK_succ l x j y hy
              have HQ : Hid (∀ U, Bl wr U → U.rangeAt b (off + j * 65) (y.k.map vb) ∧ U.rangeAt b (off + i * 65) (x.k.map vb)) := fun U h => ⟨Bl.range (bl_tr HB3.out (bl_tr HB.out h)) hbl ry, (HX.out U (bl_tr HB.out h)).2⟩
              have HE := hidI (HEK.out y x)
              have IY := hidI (HIK.out y)
              have HS1 := hidI hs1
              clear hy e' ry hs1
              generalize decide (y.k = x.k) = q at *
              generalize y.k.map vb = KY at *
              generalize x.k.map vb = KX at *
              go_upto_region 18 with (first | go_skip)
              cases hf : HG.fstK l x j with
              | false =>
                rw [hf] at HS1
                have HS2 : Hid (HG.fstK l x (j + 1) = false) := HS1.out
                clear hf HS1
                refine wp_region_noPanic ?_
                refine wp_region_held_drew (S := fun U => Bl wr U) (by kernel_rfl) (((Bl.refl wr).drew)) (fun hHeld => ?_)
                refine wpAnyH_take (i := 0) rfl (by kernel_rfl) (by kernel_rfl) (by kernel_rfl) (fun _ _ _ h => h) (yi_move (by kernel_rfl) rfl rfl) (by assumption) ?_
                simp only [Act.put, List.getElem_toArray, List.getElem_cons_succ, List.getElem_cons_zero, List.setIfInBounds_toArray, List.set_cons_zero, List.set_cons_succ, Act.eval, Array.getD_eq_getD_getElem?, List.getElem?_toArray, List.getElem?_cons_succ, List.getElem?_cons_zero, Option.getD_some]
                refine wpAnyH_take (i := 1) rfl (by kernel_rfl) (by kernel_rfl) (by kernel_rfl) (fun _ _ _ h => h) (yi_move (by kernel_rfl) rfl rfl) (by assumption) ?_
                simp only [Act.put, List.getElem_toArray, List.getElem_cons_succ, List.getElem_cons_zero, List.setIfInBounds_toArray, List.set_cons_zero, List.set_cons_succ, Act.eval, Array.getD_eq_getD_getElem?, List.getElem?_toArray, List.getElem?_cons_succ, List.getElem?_cons_zero, Option.getD_some]
                refine wpAnyH_take (i := 2) (v := undef) rfl (by kernel_rfl) (by kernel_rfl) (by kernel_rfl) (fun _ _ _ h => h) (Or.inr ⟨by kernel_rfl, rfl⟩) (by assumption) ?_
                simp only [Act.put, List.getElem_toArray, List.getElem_cons_succ, List.getElem_cons_zero, List.setIfInBounds_toArray, List.set_cons_zero, List.set_cons_succ, Act.eval, Array.getD_eq_getD_getElem?, List.getElem?_toArray, List.getElem?_cons_succ, List.getElem?_cons_zero, Option.getD_some]
                refine wpAnyH_take (i := 3) (v := undef) rfl (by kernel_rfl) (by kernel_rfl) (by kernel_rfl) (fun _ _ _ h => h) (Or.inr ⟨by kernel_rfl, rfl⟩) (by assumption) ?_
                simp only [Act.put, List.getElem_toArray, List.getElem_cons_succ, List.getElem_cons_zero, List.setIfInBounds_toArray, List.set_cons_zero, List.set_cons_succ, Act.eval, Array.getD_eq_getD_getElem?, List.getElem?_toArray, List.getElem?_cons_succ, List.getElem?_cons_zero, Option.getD_some]
                refine wpAnyH_take (i := 4) (v := undef) rfl (by kernel_rfl) (by kernel_rfl) (by kernel_rfl) (fun _ _ _ h => h) (Or.inr ⟨by kernel_rfl, rfl⟩) (by assumption) ?_
                simp only [Act.put, List.getElem_toArray, List.getElem_cons_succ, List.getElem_cons_zero, List.setIfInBounds_toArray, List.set_cons_zero, List.set_cons_succ, Act.eval, Array.getD_eq_getD_getElem?, List.getElem?_toArray, List.getElem?_cons_succ, List.getElem?_cons_zero, Option.getD_some]
                refine wpAnyH_take (i := 5) (v := undef) rfl (by kernel_rfl) (by kernel_rfl) (by kernel_rfl) (fun _ _ _ h => h) (Or.inr ⟨by kernel_rfl, rfl⟩) (by assumption) ?_
                simp only [Act.put, List.getElem_toArray, List.getElem_cons_succ, List.getElem_cons_zero, List.setIfInBounds_toArray, List.set_cons_zero, List.set_cons_succ, Act.eval, Array.getD_eq_getD_getElem?, List.getElem?_toArray, List.getElem?_cons_succ, List.getElem?_cons_zero, Option.getD_some]
                refine wpAnyH_take (i := 6) (v := undef) rfl (by kernel_rfl) (by kernel_rfl) (by kernel_rfl) (fun _ _ _ h => h) (Or.inr ⟨by kernel_rfl, rfl⟩) (by assumption) ?_
                simp only [Act.put, List.getElem_toArray, List.getElem_cons_succ, List.getElem_cons_zero, List.setIfInBounds_toArray, List.set_cons_zero, List.set_cons_succ, Act.eval, Array.getD_eq_getD_getElem?, List.getElem?_toArray, List.getElem?_cons_succ, List.getElem?_cons_zero, Option.getD_some]
                refine wpAnyH_take (i := 7) (v := undef) rfl (by kernel_rfl) (by kernel_rfl) (by kernel_rfl) (fun _ _ _ h => h) (Or.inr ⟨by kernel_rfl, rfl⟩) (by assumption) ?_
                simp only [Act.put, List.getElem_toArray, List.getElem_cons_succ, List.getElem_cons_zero, List.setIfInBounds_toArray, List.set_cons_zero, List.set_cons_succ, Act.eval, Array.getD_eq_getD_getElem?, List.getElem?_toArray, List.getElem?_cons_succ, List.getElem?_cons_zero, Option.getD_some]
                refine wpAnyH_take (i := 8) (v := undef) rfl (by kernel_rfl) (by kernel_rfl) (by kernel_rfl) (fun _ _ _ h => h) (Or.inr ⟨by kernel_rfl, rfl⟩) (by assumption) ?_
                simp only [Act.put, List.getElem_toArray, List.getElem_cons_succ, List.getElem_cons_zero, List.setIfInBounds_toArray, List.set_cons_zero, List.set_cons_succ, Act.eval, Array.getD_eq_getD_getElem?, List.getElem?_toArray, List.getElem?_cons_succ, List.getElem?_cons_zero, Option.getD_some]
                refine wpAnyH_take (i := 9) (v := undef) rfl (by kernel_rfl) (by kernel_rfl) (by kernel_rfl) (fun _ _ _ h => h) (Or.inr ⟨by kernel_rfl, rfl⟩) (by assumption) ?_
                simp only [Act.put, List.getElem_toArray, List.getElem_cons_succ, List.getElem_cons_zero, List.setIfInBounds_toArray, List.set_cons_zero, List.set_cons_succ, Act.eval, Array.getD_eq_getD_getElem?, List.getElem?_toArray, List.getElem?_cons_succ, List.getElem?_cons_zero, Option.getD_some]
                refine wpAnyH_take (i := 10) (v := undef) rfl (by kernel_rfl) (by kernel_rfl) (by kernel_rfl) (fun _ _ _ h => h) (Or.inr ⟨by kernel_rfl, rfl⟩) (by assumption) ?_
                simp only [Act.put, List.getElem_toArray, List.getElem_cons_succ, List.getElem_cons_zero, List.setIfInBounds_toArray, List.set_cons_zero, List.set_cons_succ, Act.eval, Array.getD_eq_getD_getElem?, List.getElem?_toArray, List.getElem?_cons_succ, List.getElem?_cons_zero, Option.getD_some]
                refine wpAnyH_take (i := 11) (v := undef) rfl (by kernel_rfl) (by kernel_rfl) (by kernel_rfl) (fun _ _ _ h => h) (Or.inr ⟨by kernel_rfl, rfl⟩) (by assumption) ?_
                simp only [Act.put, List.getElem_toArray, List.getElem_cons_succ, List.getElem_cons_zero, List.setIfInBounds_toArray, List.set_cons_zero, List.set_cons_succ, Act.eval, Array.getD_eq_getD_getElem?, List.getElem?_toArray, List.getElem?_cons_succ, List.getElem?_cons_zero, Option.getD_some]
                refine wpAnyH_take (i := 12) (v := undef) rfl (by kernel_rfl) (by kernel_rfl) (by kernel_rfl) (fun _ _ _ h => h) (Or.inr ⟨by kernel_rfl, rfl⟩) (by assumption) ?_
                simp only [Act.put, List.getElem_toArray, List.getElem_cons_succ, List.getElem_cons_zero, List.setIfInBounds_toArray, List.set_cons_zero, List.set_cons_succ, Act.eval, Array.getD_eq_getD_getElem?, List.getElem?_toArray, List.getElem?_cons_succ, List.getElem?_cons_zero, Option.getD_some]
                refine wpAnyH_take (i := 13) (v := ?_) rfl (by kernel_rfl) (by kernel_rfl) (by kernel_rfl) (fun _ _ _ h => h) (Or.inl ⟨by kernel_rfl, ?_⟩) (by assumption) ?_
                rotate_left
                · (intro w hSw; (try dsimp only at hSw); go_simp; (try with_reducible rfl))
                simp only [Act.put, List.getElem_toArray, List.getElem_cons_succ, List.getElem_cons_zero, List.setIfInBounds_toArray, List.set_cons_zero, List.set_cons_succ, Act.eval, Array.getD_eq_getD_getElem?, List.getElem?_toArray, List.getElem?_cons_succ, List.getElem?_cons_zero, Option.getD_some]
                refine wpAnyH_take (i := 14) rfl (by kernel_rfl) (by kernel_rfl) (by kernel_rfl) (fun _ _ _ h => h) (yi_assign (by kernel_rfl) rfl rfl) (by assumption) ?_
                simp only [Act.put, List.getElem_toArray, List.getElem_cons_succ, List.getElem_cons_zero, List.setIfInBounds_toArray, List.set_cons_zero, List.set_cons_succ, Act.eval, Array.getD_eq_getD_getElem?, List.getElem?_toArray, List.getElem?_cons_succ, List.getElem?_cons_zero, Option.getD_some]
                refine wpAnyH_done (by kernel_rfl) ?_ _
                refine NoPanic.normal ?_
                go_wp2_with fail
                go_roundw
                case rel => exact ⟨j + 1, by omega, by rw [HS2.out], by first | rfl | go_num, bl_tr HB.out ((Bl.refl wr).drew)⟩
                case measure => simp [intOf]; omega
              | true =>
                rw [hf] at HS1
                have HS2 : Hid (HG.fstK l x (j + 1) = !q) := HS1.out
                clear hf HS1
                cases q with
                | true =>
                  refine wp_region_noPanic ?_
                  refine wp_region_held_drew (S := fun U => Bl wr U) (by kernel_rfl) (((Bl.refl wr).drew)) (fun hHeld => ?_)
                  refine wpAnyH_take (i := 0) rfl (by kernel_rfl) (by kernel_rfl) (by kernel_rfl) (fun _ _ _ h => h) (yi_move (by kernel_rfl) rfl rfl) (by assumption) ?_
                  simp only [Act.put, List.getElem_toArray, List.getElem_cons_succ, List.getElem_cons_zero, List.setIfInBounds_toArray, List.set_cons_zero, List.set_cons_succ, Act.eval, Array.getD_eq_getD_getElem?, List.getElem?_toArray, List.getElem?_cons_succ, List.getElem?_cons_zero, Option.getD_some]
                  refine wpAnyH_take (i := 1) rfl (by kernel_rfl) (by kernel_rfl) (by kernel_rfl) (fun _ _ _ h => h) (yi_move (by kernel_rfl) rfl rfl) (by assumption) ?_
                  simp only [Act.put, List.getElem_toArray, List.getElem_cons_succ, List.getElem_cons_zero, List.setIfInBounds_toArray, List.set_cons_zero, List.set_cons_succ, Act.eval, Array.getD_eq_getD_getElem?, List.getElem?_toArray, List.getElem?_cons_succ, List.getElem?_cons_zero, Option.getD_some]
                  refine wpAnyH_take (i := 2) rfl (by kernel_rfl) (by kernel_rfl) (by kernel_rfl) (fun _ _ _ h => h) (yi_move (by kernel_rfl) rfl rfl) (by assumption) ?_
                  simp only [Act.put, List.getElem_toArray, List.getElem_cons_succ, List.getElem_cons_zero, List.setIfInBounds_toArray, List.set_cons_zero, List.set_cons_succ, Act.eval, Array.getD_eq_getD_getElem?, List.getElem?_toArray, List.getElem?_cons_succ, List.getElem?_cons_zero, Option.getD_some]
                  refine wpAnyH_take (i := 3) rfl (by kernel_rfl) (by kernel_rfl) (by kernel_rfl) (fun _ _ _ h => h) (yi_move (by kernel_rfl) rfl rfl) (by assumption) ?_
                  simp only [Act.put, List.getElem_toArray, List.getElem_cons_succ, List.getElem_cons_zero, List.setIfInBounds_toArray, List.set_cons_zero, List.set_cons_succ, Act.eval, Array.getD_eq_getD_getElem?, List.getElem?_toArray, List.getElem?_cons_succ, List.getElem?_cons_zero, Option.getD_some]
                  refine wpAnyH_take (i := 4) (v := ?_) rfl (by kernel_rfl) (by kernel_rfl) (by kernel_rfl) (fun _ _ _ h => h) (Or.inl ⟨by kernel_rfl, ?_⟩) (by assumption) ?_
                  rotate_left
                  · (intro w hSw; (try dsimp only at hSw); go_simp; (try with_reducible rfl))
                  simp only [Act.put, List.getElem_toArray, List.getElem_cons_succ, List.getElem_cons_zero, List.setIfInBounds_toArray, List.set_cons_zero, List.set_cons_succ, Act.eval, Array.getD_eq_getD_getElem?, List.getElem?_toArray, List.getElem?_cons_succ, List.getElem?_cons_zero, Option.getD_some]
                  refine wpAnyH_take (i := 5) (v := ?_) rfl (by kernel_rfl) (by kernel_rfl) (by kernel_rfl) (fun _ _ _ h => h) (Or.inl ⟨by kernel_rfl, ?_⟩) (by assumption) ?_
                  rotate_left
                  · (intro w hSw; (try dsimp only at hSw); go_simp; (try with_reducible rfl))
                  simp only [Act.put, List.getElem_toArray, List.getElem_cons_succ, List.getElem_cons_zero, List.setIfInBounds_toArray, List.set_cons_zero, List.set_cons_succ, Act.eval, Array.getD_eq_getD_getElem?, List.getElem?_toArray, List.getElem?_cons_succ, List.getElem?_cons_zero, Option.getD_some]
                  refine wpAnyH_take (i := 6) (v := .agg (List.toArray KY)) rfl (by kernel_rfl) (by kernel_rfl) (by kernel_rfl) (fun _ _ _ h => h) (yieldsIf_load_mid (by kernel_rfl) _ (.tmp 53) (by kernel_rfl) b (off + j * 65) (by kernel_rfl) KY _ (fun W hW => (HQ.out _ hW).1) und27 rfl IY.out) (by assumption) ?_
                  simp only [Act.put, List.getElem_toArray, List.getElem_cons_succ, List.getElem_cons_zero, List.setIfInBounds_toArray, List.set_cons_zero, List.set_cons_succ, Act.eval, Array.getD_eq_getD_getElem?, List.getElem?_toArray, List.getElem?_cons_succ, List.getElem?_cons_zero, Option.getD_some]
                  refine wpAnyH_take (i := 7) rfl (by kernel_rfl) (by kernel_rfl) (by kernel_rfl) (fun _ _ _ h => h) (yi_move (by kernel_rfl) rfl rfl) (by assumption) ?_
                  simp only [Act.put, List.getElem_toArray, List.getElem_cons_succ, List.getElem_cons_zero, List.setIfInBounds_toArray, List.set_cons_zero, List.set_cons_succ, Act.eval, Array.getD_eq_getD_getElem?, List.getElem?_toArray, List.getElem?_cons_succ, List.getElem?_cons_zero, Option.getD_some]
                  refine wpAnyH_take (i := 8) rfl (by kernel_rfl) (by kernel_rfl) (by kernel_rfl) (fun _ _ _ h => h) (yi_move (by kernel_rfl) rfl rfl) (by assumption) ?_
                  simp only [Act.put, List.getElem_toArray, List.getElem_cons_succ, List.getElem_cons_zero, List.setIfInBounds_toArray, List.set_cons_zero, List.set_cons_succ, Act.eval, Array.getD_eq_getD_getElem?, List.getElem?_toArray, List.getElem?_cons_succ, List.getElem?_cons_zero, Option.getD_some]
                  refine wpAnyH_take (i := 9) (v := ?_) rfl (by kernel_rfl) (by kernel_rfl) (by kernel_rfl) (fun _ _ _ h => h) (Or.inl ⟨by kernel_rfl, ?_⟩) (by assumption) ?_
                  rotate_left
                  · (intro w hSw; (try dsimp only at hSw); go_simp; (try with_reducible rfl))
                  simp only [Act.put, List.getElem_toArray, List.getElem_cons_succ, List.getElem_cons_zero, List.setIfInBounds_toArray, List.set_cons_zero, List.set_cons_succ, Act.eval, Array.getD_eq_getD_getElem?, List.getElem?_toArray, List.getElem?_cons_succ, List.getElem?_cons_zero, Option.getD_some]
                  refine wpAnyH_take (i := 10) (v := ?_) rfl (by kernel_rfl) (by kernel_rfl) (by kernel_rfl) (fun _ _ _ h => h) (Or.inl ⟨by kernel_rfl, ?_⟩) (by assumption) ?_
                  rotate_left
                  · (intro w hSw; (try dsimp only at hSw); go_simp; (try with_reducible rfl))
                  simp only [Act.put, List.getElem_toArray, List.getElem_cons_succ, List.getElem_cons_zero, List.setIfInBounds_toArray, List.set_cons_zero, List.set_cons_succ, Act.eval, Array.getD_eq_getD_getElem?, List.getElem?_toArray, List.getElem?_cons_succ, List.getElem?_cons_zero, Option.getD_some]
                  refine wpAnyH_take (i := 11) (v := .agg (List.toArray KX)) rfl (by kernel_rfl) (by kernel_rfl) (by kernel_rfl) (fun _ _ _ h => h) (yieldsIf_load_mid (by kernel_rfl) _ (.tmp 58) (by kernel_rfl) b (off + i * 65) (by kernel_rfl) KX _ (fun W hW => (HQ.out _ hW).2) und27 rfl IX.out) (by assumption) ?_
                  simp only [Act.put, List.getElem_toArray, List.getElem_cons_succ, List.getElem_cons_zero, List.setIfInBounds_toArray, List.set_cons_zero, List.set_cons_succ, Act.eval, Array.getD_eq_getD_getElem?, List.getElem?_toArray, List.getElem?_cons_succ, List.getElem?_cons_zero, Option.getD_some]
                  refine wpAnyH_take (i := 12) (v := ?_) rfl (by kernel_rfl) (by kernel_rfl) (by kernel_rfl) (fun _ _ _ h => h) (Or.inl ⟨by kernel_rfl, ?_⟩) (by assumption) ?_
                  rotate_left
                  · (intro w hSw; have hX := HE.out w; go_simp; (try with_reducible rfl))
                  simp only [Act.put, List.getElem_toArray, List.getElem_cons_succ, List.getElem_cons_zero, List.setIfInBounds_toArray, List.set_cons_zero, List.set_cons_succ, Act.eval, Array.getD_eq_getD_getElem?, List.getElem?_toArray, List.getElem?_cons_succ, List.getElem?_cons_zero, Option.getD_some]
                  refine wpAnyH_take (i := 13) (v := ?_) rfl (by kernel_rfl) (by kernel_rfl) (by kernel_rfl) (fun _ _ _ h => h) (Or.inl ⟨by kernel_rfl, ?_⟩) (by assumption) ?_
                  rotate_left
                  · (intro w hSw; (try dsimp only at hSw); go_simp; (try with_reducible rfl))
                  simp only [Act.put, List.getElem_toArray, List.getElem_cons_succ, List.getElem_cons_zero, List.setIfInBounds_toArray, List.set_cons_zero, List.set_cons_succ, Act.eval, Array.getD_eq_getD_getElem?, List.getElem?_toArray, List.getElem?_cons_succ, List.getElem?_cons_zero, Option.getD_some]
                  refine wpAnyH_take (i := 14) rfl (by kernel_rfl) (by kernel_rfl) (by kernel_rfl) (fun _ _ _ h => h) (yi_assign (by kernel_rfl) rfl rfl) (by assumption) ?_
                  simp only [Act.put, List.getElem_toArray, List.getElem_cons_succ, List.getElem_cons_zero, List.setIfInBounds_toArray, List.set_cons_zero, List.set_cons_succ, Act.eval, Array.getD_eq_getD_getElem?, List.getElem?_toArray, List.getElem?_cons_succ, List.getElem?_cons_zero, Option.getD_some]
                  refine wpAnyH_done (by kernel_rfl) ?_ _
                  refine NoPanic.normal ?_
                  go_wp2_with fail
                  go_roundw
                  case rel => exact ⟨j + 1, by omega, by rw [HS2.out]; rfl, by first | rfl | go_num, bl_tr HB.out ((Bl.refl wr).drew)⟩
                  case measure => simp [intOf]; omega
                | false =>
                  refine wp_region_noPanic ?_
                  refine wp_region_held_drew (S := fun U => Bl wr U) (by kernel_rfl) (((Bl.refl wr).drew)) (fun hHeld => ?_)
                  refine wpAnyH_take (i := 0) rfl (by kernel_rfl) (by kernel_rfl) (by kernel_rfl) (fun _ _ _ h => h) (yi_move (by kernel_rfl) rfl rfl) (by assumption) ?_
                  simp only [Act.put, List.getElem_toArray, List.getElem_cons_succ, List.getElem_cons_zero, List.setIfInBounds_toArray, List.set_cons_zero, List.set_cons_succ, Act.eval, Array.getD_eq_getD_getElem?, List.getElem?_toArray, List.getElem?_cons_succ, List.getElem?_cons_zero, Option.getD_some]
                  refine wpAnyH_take (i := 1) rfl (by kernel_rfl) (by kernel_rfl) (by kernel_rfl) (fun _ _ _ h => h) (yi_move (by kernel_rfl) rfl rfl) (by assumption) ?_
                  simp only [Act.put, List.getElem_toArray, List.getElem_cons_succ, List.getElem_cons_zero, List.setIfInBounds_toArray, List.set_cons_zero, List.set_cons_succ, Act.eval, Array.getD_eq_getD_getElem?, List.getElem?_toArray, List.getElem?_cons_succ, List.getElem?_cons_zero, Option.getD_some]
                  refine wpAnyH_take (i := 2) rfl (by kernel_rfl) (by kernel_rfl) (by kernel_rfl) (fun _ _ _ h => h) (yi_move (by kernel_rfl) rfl rfl) (by assumption) ?_
                  simp only [Act.put, List.getElem_toArray, List.getElem_cons_succ, List.getElem_cons_zero, List.setIfInBounds_toArray, List.set_cons_zero, List.set_cons_succ, Act.eval, Array.getD_eq_getD_getElem?, List.getElem?_toArray, List.getElem?_cons_succ, List.getElem?_cons_zero, Option.getD_some]
                  refine wpAnyH_take (i := 3) rfl (by kernel_rfl) (by kernel_rfl) (by kernel_rfl) (fun _ _ _ h => h) (yi_move (by kernel_rfl) rfl rfl) (by assumption) ?_
                  simp only [Act.put, List.getElem_toArray, List.getElem_cons_succ, List.getElem_cons_zero, List.setIfInBounds_toArray, List.set_cons_zero, List.set_cons_succ, Act.eval, Array.getD_eq_getD_getElem?, List.getElem?_toArray, List.getElem?_cons_succ, List.getElem?_cons_zero, Option.getD_some]
                  refine wpAnyH_take (i := 4) (v := ?_) rfl (by kernel_rfl) (by kernel_rfl) (by kernel_rfl) (fun _ _ _ h => h) (Or.inl ⟨by kernel_rfl, ?_⟩) (by assumption) ?_
                  rotate_left
                  · (intro w hSw; (try dsimp only at hSw); go_simp; (try with_reducible rfl))
                  simp only [Act.put, List.getElem_toArray, List.getElem_cons_succ, List.getElem_cons_zero, List.setIfInBounds_toArray, List.set_cons_zero, List.set_cons_succ, Act.eval, Array.getD_eq_getD_getElem?, List.getElem?_toArray, List.getElem?_cons_succ, List.getElem?_cons_zero, Option.getD_some]
                  refine wpAnyH_take (i := 5) (v := ?_) rfl (by kernel_rfl) (by kernel_rfl) (by kernel_rfl) (fun _ _ _ h => h) (Or.inl ⟨by kernel_rfl, ?_⟩) (by assumption) ?_
                  rotate_left
                  · (intro w hSw; (try dsimp only at hSw); go_simp; (try with_reducible rfl))
                  simp only [Act.put, List.getElem_toArray, List.getElem_cons_succ, List.getElem_cons_zero, List.setIfInBounds_toArray, List.set_cons_zero, List.set_cons_succ, Act.eval, Array.getD_eq_getD_getElem?, List.getElem?_toArray, List.getElem?_cons_succ, List.getElem?_cons_zero, Option.getD_some]
                  refine wpAnyH_take (i := 6) (v := .agg (List.toArray KY)) rfl (by kernel_rfl) (by kernel_rfl) (by kernel_rfl) (fun _ _ _ h => h) (yieldsIf_load_mid (by kernel_rfl) _ (.tmp 53) (by kernel_rfl) b (off + j * 65) (by kernel_rfl) KY _ (fun W hW => (HQ.out _ hW).1) und27 rfl IY.out) (by assumption) ?_
                  simp only [Act.put, List.getElem_toArray, List.getElem_cons_succ, List.getElem_cons_zero, List.setIfInBounds_toArray, List.set_cons_zero, List.set_cons_succ, Act.eval, Array.getD_eq_getD_getElem?, List.getElem?_toArray, List.getElem?_cons_succ, List.getElem?_cons_zero, Option.getD_some]
                  refine wpAnyH_take (i := 7) rfl (by kernel_rfl) (by kernel_rfl) (by kernel_rfl) (fun _ _ _ h => h) (yi_move (by kernel_rfl) rfl rfl) (by assumption) ?_
                  simp only [Act.put, List.getElem_toArray, List.getElem_cons_succ, List.getElem_cons_zero, List.setIfInBounds_toArray, List.set_cons_zero, List.set_cons_succ, Act.eval, Array.getD_eq_getD_getElem?, List.getElem?_toArray, List.getElem?_cons_succ, List.getElem?_cons_zero, Option.getD_some]
                  refine wpAnyH_take (i := 8) rfl (by kernel_rfl) (by kernel_rfl) (by kernel_rfl) (fun _ _ _ h => h) (yi_move (by kernel_rfl) rfl rfl) (by assumption) ?_
                  simp only [Act.put, List.getElem_toArray, List.getElem_cons_succ, List.getElem_cons_zero, List.setIfInBounds_toArray, List.set_cons_zero, List.set_cons_succ, Act.eval, Array.getD_eq_getD_getElem?, List.getElem?_toArray, List.getElem?_cons_succ, List.getElem?_cons_zero, Option.getD_some]
                  refine wpAnyH_take (i := 9) (v := ?_) rfl (by kernel_rfl) (by kernel_rfl) (by kernel_rfl) (fun _ _ _ h => h) (Or.inl ⟨by kernel_rfl, ?_⟩) (by assumption) ?_
                  rotate_left
                  · (intro w hSw; (try dsimp only at hSw); go_simp; (try with_reducible rfl))
                  simp only [Act.put, List.getElem_toArray, List.getElem_cons_succ, List.getElem_cons_zero, List.setIfInBounds_toArray, List.set_cons_zero, List.set_cons_succ, Act.eval, Array.getD_eq_getD_getElem?, List.getElem?_toArray, List.getElem?_cons_succ, List.getElem?_cons_zero, Option.getD_some]
                  refine wpAnyH_take (i := 10) (v := ?_) rfl (by kernel_rfl) (by kernel_rfl) (by kernel_rfl) (fun _ _ _ h => h) (Or.inl ⟨by kernel_rfl, ?_⟩) (by assumption) ?_
                  rotate_left
                  · (intro w hSw; (try dsimp only at hSw); go_simp; (try with_reducible rfl))
                  simp only [Act.put, List.getElem_toArray, List.getElem_cons_succ, List.getElem_cons_zero, List.setIfInBounds_toArray, List.set_cons_zero, List.set_cons_succ, Act.eval, Array.getD_eq_getD_getElem?, List.getElem?_toArray, List.getElem?_cons_succ, List.getElem?_cons_zero, Option.getD_some]
                  refine wpAnyH_take (i := 11) (v := .agg (List.toArray KX)) rfl (by kernel_rfl) (by kernel_rfl) (by kernel_rfl) (fun _ _ _ h => h) (yieldsIf_load_mid (by kernel_rfl) _ (.tmp 58) (by kernel_rfl) b (off + i * 65) (by kernel_rfl) KX _ (fun W hW => (HQ.out _ hW).2) und27 rfl IX.out) (by assumption) ?_
                  simp only [Act.put, List.getElem_toArray, List.getElem_cons_succ, List.getElem_cons_zero, List.setIfInBounds_toArray, List.set_cons_zero, List.set_cons_succ, Act.eval, Array.getD_eq_getD_getElem?, List.getElem?_toArray, List.getElem?_cons_succ, List.getElem?_cons_zero, Option.getD_some]
                  refine wpAnyH_take (i := 12) (v := ?_) rfl (by kernel_rfl) (by kernel_rfl) (by kernel_rfl) (fun _ _ _ h => h) (Or.inl ⟨by kernel_rfl, ?_⟩) (by assumption) ?_
                  rotate_left
                  · (intro w hSw; have hX := HE.out w; go_simp; (try with_reducible rfl))
                  simp only [Act.put, List.getElem_toArray, List.getElem_cons_succ, List.getElem_cons_zero, List.setIfInBounds_toArray, List.set_cons_zero, List.set_cons_succ, Act.eval, Array.getD_eq_getD_getElem?, List.getElem?_toArray, List.getElem?_cons_succ, List.getElem?_cons_zero, Option.getD_some]
                  refine wpAnyH_take (i := 13) (v := ?_) rfl (by kernel_rfl) (by kernel_rfl) (by kernel_rfl) (fun _ _ _ h => h) (Or.inl ⟨by kernel_rfl, ?_⟩) (by assumption) ?_
                  rotate_left
                  · (intro w hSw; (try dsimp only at hSw); go_simp; (try with_reducible rfl))
                  simp only [Act.put, List.getElem_toArray, List.getElem_cons_succ, List.getElem_cons_zero, List.setIfInBounds_toArray, List.set_cons_zero, List.set_cons_succ, Act.eval, Array.getD_eq_getD_getElem?, List.getElem?_toArray, List.getElem?_cons_succ, List.getElem?_cons_zero, Option.getD_some]
                  refine wpAnyH_take (i := 14) rfl (by kernel_rfl) (by kernel_rfl) (by kernel_rfl) (fun _ _ _ h => h) (yi_assign (by kernel_rfl) rfl rfl) (by assumption) ?_
                  simp only [Act.put, List.getElem_toArray, List.getElem_cons_succ, List.getElem_cons_zero, List.setIfInBounds_toArray, List.set_cons_zero, List.set_cons_succ, Act.eval, Array.getD_eq_getD_getElem?, List.getElem?_toArray, List.getElem?_cons_succ, List.getElem?_cons_zero, Option.getD_some]
                  refine wpAnyH_done (by kernel_rfl) ?_ _
                  refine NoPanic.normal ?_
                  go_wp2_with fail
                  go_roundw
                  case rel => exact ⟨j + 1, by omega, by rw [HS2.out]; rfl, by first | rfl | go_num, bl_tr HB.out ((Bl.refl wr).drew)⟩
                  case measure => simp [intOf]; omega
            · obtain rfl : j = i := by omega
              have hjz : ¬ (j : Int) < (j : Int) := by omega
              go_wp2_with fail
              go_loopw [8, 9, 10] (fun u8 u9 u10 wr => ∃ t : Nat, t ≤ m ∧ u8 = .int .i64 (HG.cntK s x.k t : Nat) ∧ u9 = .bool (HG.isK s x t) ∧ u10 = .int .i64 t ∧ Bl w3 wr) (fun _ _ u10 _ => m - (intOf u10).toNat)
              case atStart => exact ⟨0, Nat.zero_le _, by rw [HC0.out]; rfl, by rw [HI0.out], rfl, HB.out⟩
              case round =>
                as_aux_lemma =>
                obtain ⟨t, htm, rfl, rfl, rfl, hb⟩ := hrel
                have HB := hidI hb
                clear hb
                by_cases htl : t < m
                · have htz : (t : Int) < (m : Int) := by omega
                  obtain ⟨y, hy⟩ : ∃ y, s[t]? = some y := ⟨s[t]'(by have := HM.out; omega), List.getElem?_eq_getElem (by have := HM.out; omega)⟩
                  obtain ⟨b3, off3, rfl, hbl, rfy, ry⟩ := SL.at' (n := m) (c := c3) HR3.out hy
                  have hc1 := HG.cntK_succ s x.k t y hy
                  have hi1 := HG.isK_succ s x t y hy
                  have HQ : Hid (∀ U, Bl wr U → U.rangeAt b3 (off3 + t * 65) (y.k.map vb) ∧ U.rangeAt b (off + j * 65) (x.k.map vb) ∧ U.rangeAt b3 (off3 + t * 65) (fR y) ∧ U.rangeAt b (off + j * 65) (fR x)) := fun U h =>
                    ⟨Bl.range (bl_tr HB.out h) hbl ry, (HX.out U (bl_tr HB.out h)).2, Bl.range (bl_tr HB.out h) hbl rfy, (HX.out U (bl_tr HB.out h)).1⟩
                  have HE := hidI (HEK.out y x)
                  have HE2 := hidI (HER.out y x)
                  have IY := hidI (HIK.out y)
                  have IRY := hidI (HIR.out y)
                  have hcb : (HG.cntK s x.k t : Int) ≤ 1000 := by
                    have : HG.cntK s x.k t ≤ t := by
                      unfold HG.cntK
                      exact Nat.le_trans (List.length_filter_le _ _) (by simp; omega)
                    omega
                  obtain ⟨e2, he2⟩ : ∃ e2, e2 = eqR y x := ⟨_, rfl⟩
                  rw [← he2] at hi1 HE2
                  have HH := hidI (And.intro hc1 hi1)
                  clear hy ry rfy hc1 hi1 he2
                  by_cases hyx : y.k = x.k
                  · have hc2 : HG.cntK s x.k (t + 1) = HG.cntK s x.k t + 1 := by rw [HH.out.1, if_pos hyx]
                    have hi2 : HG.isK s x (t + 1) = e2 := by rw [HH.out.2, if_pos hyx]
                    have HH2 := hidI (And.intro hc2 hi2)
                    rw [decide_eq_true hyx] at HE
                    clear hyx hc2 hi2 HH
                    generalize y.k.map vb = KY at *
                    generalize x.k.map vb = KX at *
                    generalize fR y = FY at *
                    generalize fR x = FX at *
                    go_upto_region 24 with (first | go_skip)
                    refine wp_region_noPanic ?_
                    refine wp_region_held_drew (S := fun U => Bl wr U) (by kernel_rfl) (((Bl.refl wr).drew)) (fun hHeld => ?_)
                    refine wpAnyH_take (i := 0) rfl (by kernel_rfl) (by kernel_rfl) (by kernel_rfl) (fun _ _ _ h => h) (yi_move (by kernel_rfl) rfl rfl) (by assumption) ?_
                    simp only [Act.put, List.getElem_toArray, List.getElem_cons_succ, List.getElem_cons_zero, List.setIfInBounds_toArray, List.set_cons_zero, List.set_cons_succ, Act.eval, Array.getD_eq_getD_getElem?, List.getElem?_toArray, List.getElem?_cons_succ, List.getElem?_cons_zero, Option.getD_some]
                    refine wpAnyH_take (i := 1) rfl (by kernel_rfl) (by kernel_rfl) (by kernel_rfl) (fun _ _ _ h => h) (yi_move (by kernel_rfl) rfl rfl) (by assumption) ?_
                    simp only [Act.put, List.getElem_toArray, List.getElem_cons_succ, List.getElem_cons_zero, List.setIfInBounds_toArray, List.set_cons_zero, List.set_cons_succ, Act.eval, Array.getD_eq_getD_getElem?, List.getElem?_toArray, List.getElem?_cons_succ, List.getElem?_cons_zero, Option.getD_some]
                    refine wpAnyH_take (i := 2) (v := ?_) rfl (by kernel_rfl) (by kernel_rfl) (by kernel_rfl) (fun _ _ _ h => h) (Or.inl ⟨by kernel_rfl, ?_⟩) (by assumption) ?_
                    rotate_left
                    · (intro w hSw; (try dsimp only at hSw); go_simp; (try with_reducible rfl))
                    simp only [Act.put, List.getElem_toArray, List.getElem_cons_succ, List.getElem_cons_zero, List.setIfInBounds_toArray, List.set_cons_zero, List.set_cons_succ, Act.eval, Array.getD_eq_getD_getElem?, List.getElem?_toArray, List.getElem?_cons_succ, List.getElem?_cons_zero, Option.getD_some]
                    refine wpAnyH_take (i := 3) (v := ?_) rfl (by kernel_rfl) (by kernel_rfl) (by kernel_rfl) (fun _ _ _ h => h) (Or.inl ⟨by kernel_rfl, ?_⟩) (by assumption) ?_
                    rotate_left
                    · (intro w hSw; (try dsimp only at hSw); go_simp; (try with_reducible rfl))
                    simp only [Act.put, List.getElem_toArray, List.getElem_cons_succ, List.getElem_cons_zero, List.setIfInBounds_toArray, List.set_cons_zero, List.set_cons_succ, Act.eval, Array.getD_eq_getD_getElem?, List.getElem?_toArray, List.getElem?_cons_succ, List.getElem?_cons_zero, Option.getD_some]
                    refine wpAnyH_take (i := 4) (v := .agg (List.toArray KY)) rfl (by kernel_rfl) (by kernel_rfl) (by kernel_rfl) (fun _ _ _ h => h) (yieldsIf_load_mid (by kernel_rfl) _ (.tmp 71) (by kernel_rfl) b3 (off3 + t * 65) (by kernel_rfl) KY _ (fun W hW => (HQ.out _ hW).1) und27 rfl IY.out) (by assumption) ?_
                    simp only [Act.put, List.getElem_toArray, List.getElem_cons_succ, List.getElem_cons_zero, List.setIfInBounds_toArray, List.set_cons_zero, List.set_cons_succ, Act.eval, Array.getD_eq_getD_getElem?, List.getElem?_toArray, List.getElem?_cons_succ, List.getElem?_cons_zero, Option.getD_some]
                    refine wpAnyH_take (i := 5) rfl (by kernel_rfl) (by kernel_rfl) (by kernel_rfl) (fun _ _ _ h => h) (yi_move (by kernel_rfl) rfl rfl) (by assumption) ?_
                    simp only [Act.put, List.getElem_toArray, List.getElem_cons_succ, List.getElem_cons_zero, List.setIfInBounds_toArray, List.set_cons_zero, List.set_cons_succ, Act.eval, Array.getD_eq_getD_getElem?, List.getElem?_toArray, List.getElem?_cons_succ, List.getElem?_cons_zero, Option.getD_some]
                    refine wpAnyH_take (i := 6) rfl (by kernel_rfl) (by kernel_rfl) (by kernel_rfl) (fun _ _ _ h => h) (yi_move (by kernel_rfl) rfl rfl) (by assumption) ?_
                    simp only [Act.put, List.getElem_toArray, List.getElem_cons_succ, List.getElem_cons_zero, List.setIfInBounds_toArray, List.set_cons_zero, List.set_cons_succ, Act.eval, Array.getD_eq_getD_getElem?, List.getElem?_toArray, List.getElem?_cons_succ, List.getElem?_cons_zero, Option.getD_some]
                    refine wpAnyH_take (i := 7) (v := ?_) rfl (by kernel_rfl) (by kernel_rfl) (by kernel_rfl) (fun _ _ _ h => h) (Or.inl ⟨by kernel_rfl, ?_⟩) (by assumption) ?_
                    rotate_left
                    · (intro w hSw; (try dsimp only at hSw); go_simp; (try with_reducible rfl))
                    simp only [Act.put, List.getElem_toArray, List.getElem_cons_succ, List.getElem_cons_zero, List.setIfInBounds_toArray, List.set_cons_zero, List.set_cons_succ, Act.eval, Array.getD_eq_getD_getElem?, List.getElem?_toArray, List.getElem?_cons_succ, List.getElem?_cons_zero, Option.getD_some]
                    refine wpAnyH_take (i := 8) (v := ?_) rfl (by kernel_rfl) (by kernel_rfl) (by kernel_rfl) (fun _ _ _ h => h) (Or.inl ⟨by kernel_rfl, ?_⟩) (by assumption) ?_
                    rotate_left
                    · (intro w hSw; (try dsimp only at hSw); go_simp; (try with_reducible rfl))
                    simp only [Act.put, List.getElem_toArray, List.getElem_cons_succ, List.getElem_cons_zero, List.setIfInBounds_toArray, List.set_cons_zero, List.set_cons_succ, Act.eval, Array.getD_eq_getD_getElem?, List.getElem?_toArray, List.getElem?_cons_succ, List.getElem?_cons_zero, Option.getD_some]
                    refine wpAnyH_take (i := 9) (v := .agg (List.toArray KX)) rfl (by kernel_rfl) (by kernel_rfl) (by kernel_rfl) (fun _ _ _ h => h) (yieldsIf_load_mid (by kernel_rfl) _ (.tmp 76) (by kernel_rfl) b (off + j * 65) (by kernel_rfl) KX _ (fun W hW => (HQ.out _ hW).2.1) und27 rfl IX.out) (by assumption) ?_
                    simp only [Act.put, List.getElem_toArray, List.getElem_cons_succ, List.getElem_cons_zero, List.setIfInBounds_toArray, List.set_cons_zero, List.set_cons_succ, Act.eval, Array.getD_eq_getD_getElem?, List.getElem?_toArray, List.getElem?_cons_succ, List.getElem?_cons_zero, Option.getD_some]
                    refine wpAnyH_take (i := 10) (v := ?_) rfl (by kernel_rfl) (by kernel_rfl) (by kernel_rfl) (fun _ _ _ h => h) (Or.inl ⟨by kernel_rfl, ?_⟩) (by assumption) ?_
                    rotate_left
                    · (intro w hSw; have hX := HE.out w; go_simp; (try with_reducible rfl))
                    simp only [Act.put, List.getElem_toArray, List.getElem_cons_succ, List.getElem_cons_zero, List.setIfInBounds_toArray, List.set_cons_zero, List.set_cons_succ, Act.eval, Array.getD_eq_getD_getElem?, List.getElem?_toArray, List.getElem?_cons_succ, List.getElem?_cons_zero, Option.getD_some]
                    refine wpAnyH_done (by kernel_rfl) ?_ _
                    refine NoPanic.normal ?_
                    have HB9 := hidI ((Bl.refl wr).drew)
                    go_upto_region 26 with (first | go_skip)
                    refine wp_region_noPanic ?_
                    refine wp_region_held_drew (S := fun U => Bl wr U) (by kernel_rfl) ((((Bl.refl wr).drew).drew)) (fun hHeld => ?_)
                    refine wpAnyH_take (i := 0) rfl (by kernel_rfl) (by kernel_rfl) (by kernel_rfl) (fun _ _ _ h => h) (yi_move (by kernel_rfl) rfl rfl) (by assumption) ?_
                    simp only [Act.put, List.getElem_toArray, List.getElem_cons_succ, List.getElem_cons_zero, List.setIfInBounds_toArray, List.set_cons_zero, List.set_cons_succ, Act.eval, Array.getD_eq_getD_getElem?, List.getElem?_toArray, List.getElem?_cons_succ, List.getElem?_cons_zero, Option.getD_some]
                    refine wpAnyH_take (i := 1) rfl (by kernel_rfl) (by kernel_rfl) (by kernel_rfl) (fun _ _ _ h => h) (yi_move (by kernel_rfl) rfl rfl) (by assumption) ?_
                    simp only [Act.put, List.getElem_toArray, List.getElem_cons_succ, List.getElem_cons_zero, List.setIfInBounds_toArray, List.set_cons_zero, List.set_cons_succ, Act.eval, Array.getD_eq_getD_getElem?, List.getElem?_toArray, List.getElem?_cons_succ, List.getElem?_cons_zero, Option.getD_some]
                    refine wpAnyH_take (i := 2) (v := ?_) rfl (by kernel_rfl) (by kernel_rfl) (by kernel_rfl) (fun _ _ _ h => h) (Or.inl ⟨by kernel_rfl, ?_⟩) (by assumption) ?_
                    rotate_left
                    · (intro w hSw; (try dsimp only at hSw); go_simp; (try with_reducible rfl))
                    simp only [Act.put, List.getElem_toArray, List.getElem_cons_succ, List.getElem_cons_zero, List.setIfInBounds_toArray, List.set_cons_zero, List.set_cons_succ, Act.eval, Array.getD_eq_getD_getElem?, List.getElem?_toArray, List.getElem?_cons_succ, List.getElem?_cons_zero, Option.getD_some]
                    refine wpAnyH_take (i := 3) (v := .agg (List.toArray FY)) rfl (by kernel_rfl) (by kernel_rfl) (by kernel_rfl) (fun _ _ _ h => h) (yieldsIf_load_mid (by kernel_rfl) _ (.tmp 83) (by kernel_rfl) b3 (off3 + t * 65) (by kernel_rfl) FY _ (fun W hW => (HQ.out _ hW).2.2.1) huR.out rfl IRY.out) (by assumption) ?_
                    simp only [Act.put, List.getElem_toArray, List.getElem_cons_succ, List.getElem_cons_zero, List.setIfInBounds_toArray, List.set_cons_zero, List.set_cons_succ, Act.eval, Array.getD_eq_getD_getElem?, List.getElem?_toArray, List.getElem?_cons_succ, List.getElem?_cons_zero, Option.getD_some]
                    refine wpAnyH_take (i := 4) rfl (by kernel_rfl) (by kernel_rfl) (by kernel_rfl) (fun _ _ _ h => h) (yi_move (by kernel_rfl) rfl rfl) (by assumption) ?_
                    simp only [Act.put, List.getElem_toArray, List.getElem_cons_succ, List.getElem_cons_zero, List.setIfInBounds_toArray, List.set_cons_zero, List.set_cons_succ, Act.eval, Array.getD_eq_getD_getElem?, List.getElem?_toArray, List.getElem?_cons_succ, List.getElem?_cons_zero, Option.getD_some]
                    refine wpAnyH_take (i := 5) rfl (by kernel_rfl) (by kernel_rfl) (by kernel_rfl) (fun _ _ _ h => h) (yi_move (by kernel_rfl) rfl rfl) (by assumption) ?_
                    simp only [Act.put, List.getElem_toArray, List.getElem_cons_succ, List.getElem_cons_zero, List.setIfInBounds_toArray, List.set_cons_zero, List.set_cons_succ, Act.eval, Array.getD_eq_getD_getElem?, List.getElem?_toArray, List.getElem?_cons_succ, List.getElem?_cons_zero, Option.getD_some]
                    refine wpAnyH_take (i := 6) (v := ?_) rfl (by kernel_rfl) (by kernel_rfl) (by kernel_rfl) (fun _ _ _ h => h) (Or.inl ⟨by kernel_rfl, ?_⟩) (by assumption) ?_
                    rotate_left
                    · (intro w hSw; (try dsimp only at hSw); go_simp; (try with_reducible rfl))
                    simp only [Act.put, List.getElem_toArray, List.getElem_cons_succ, List.getElem_cons_zero, List.setIfInBounds_toArray, List.set_cons_zero, List.set_cons_succ, Act.eval, Array.getD_eq_getD_getElem?, List.getElem?_toArray, List.getElem?_cons_succ, List.getElem?_cons_zero, Option.getD_some]
                    refine wpAnyH_take (i := 7) (v := .agg (List.toArray FX)) rfl (by kernel_rfl) (by kernel_rfl) (by kernel_rfl) (fun _ _ _ h => h) (yieldsIf_load_mid (by kernel_rfl) _ (.tmp 87) (by kernel_rfl) b (off + j * 65) (by kernel_rfl) FX _ (fun W hW => (HQ.out _ hW).2.2.2) huR.out rfl IRX.out) (by assumption) ?_
                    simp only [Act.put, List.getElem_toArray, List.getElem_cons_succ, List.getElem_cons_zero, List.setIfInBounds_toArray, List.set_cons_zero, List.set_cons_succ, Act.eval, Array.getD_eq_getD_getElem?, List.getElem?_toArray, List.getElem?_cons_succ, List.getElem?_cons_zero, Option.getD_some]
                    refine wpAnyH_take (i := 8) (v := .bool e2) rfl (by kernel_rfl) (by kernel_rfl) (by kernel_rfl) (fun _ _ _ h => h) (yi_eqlS (by kernel_rfl) rfl rfl rfl gERc (fun w => HE2.out w)) (by assumption) ?_
                    simp only [Act.put, List.getElem_toArray, List.getElem_cons_succ, List.getElem_cons_zero, List.setIfInBounds_toArray, List.set_cons_zero, List.set_cons_succ, Act.eval, Array.getD_eq_getD_getElem?, List.getElem?_toArray, List.getElem?_cons_succ, List.getElem?_cons_zero, Option.getD_some]
                    refine wpAnyH_take (i := 9) rfl (by kernel_rfl) (by kernel_rfl) (by kernel_rfl) (fun _ _ _ h => h) (yi_assign (by kernel_rfl) rfl rfl) (by assumption) ?_
                    simp only [Act.put, List.getElem_toArray, List.getElem_cons_succ, List.getElem_cons_zero, List.setIfInBounds_toArray, List.set_cons_zero, List.set_cons_succ, Act.eval, Array.getD_eq_getD_getElem?, List.getElem?_toArray, List.getElem?_cons_succ, List.getElem?_cons_zero, Option.getD_some]
                    refine wpAnyH_done (by kernel_rfl) ?_ _
                    refine NoPanic.normal ?_
                    go_wp2_with fail
                    go_roundw
                    case rel => exact ⟨t + 1, by omega, by rw [HH2.out.1]; first | rfl | go_num, by rw [HH2.out.2], by first | rfl | go_num, bl_tr HB.out (((Bl.refl wr).drew).drew)⟩
                    case measure => simp [intOf]; omega
                  · have hc2 : HG.cntK s x.k (t + 1) = HG.cntK s x.k t := by rw [HH.out.1, if_neg hyx]; rfl
                    have hi2 : HG.isK s x (t + 1) = HG.isK s x t := by rw [HH.out.2, if_neg hyx]
                    have HH2 := hidI (And.intro hc2 hi2)
                    rw [decide_eq_false hyx] at HE
                    clear hyx hc2 hi2 HH
                    generalize y.k.map vb = KY at *
                    generalize x.k.map vb = KX at *
                    go_upto_region 24 with (first | go_skip)
                    refine wp_region_noPanic ?_
                    refine wp_region_held_drew (S := fun U => Bl wr U) (by kernel_rfl) (((Bl.refl wr).drew)) (fun hHeld => ?_)
                    refine wpAnyH_take (i := 0) rfl (by kernel_rfl) (by kernel_rfl) (by kernel_rfl) (fun _ _ _ h => h) (yi_move (by kernel_rfl) rfl rfl) (by assumption) ?_
                    simp only [Act.put, List.getElem_toArray, List.getElem_cons_succ, List.getElem_cons_zero, List.setIfInBounds_toArray, List.set_cons_zero, List.set_cons_succ, Act.eval, Array.getD_eq_getD_getElem?, List.getElem?_toArray, List.getElem?_cons_succ, List.getElem?_cons_zero, Option.getD_some]
                    refine wpAnyH_take (i := 1) rfl (by kernel_rfl) (by kernel_rfl) (by kernel_rfl) (fun _ _ _ h => h) (yi_move (by kernel_rfl) rfl rfl) (by assumption) ?_
                    simp only [Act.put, List.getElem_toArray, List.getElem_cons_succ, List.getElem_cons_zero, List.setIfInBounds_toArray, List.set_cons_zero, List.set_cons_succ, Act.eval, Array.getD_eq_getD_getElem?, List.getElem?_toArray, List.getElem?_cons_succ, List.getElem?_cons_zero, Option.getD_some]
                    refine wpAnyH_take (i := 2) (v := ?_) rfl (by kernel_rfl) (by kernel_rfl) (by kernel_rfl) (fun _ _ _ h => h) (Or.inl ⟨by kernel_rfl, ?_⟩) (by assumption) ?_
                    rotate_left
                    · (intro w hSw; (try dsimp only at hSw); go_simp; (try with_reducible rfl))
                    simp only [Act.put, List.getElem_toArray, List.getElem_cons_succ, List.getElem_cons_zero, List.setIfInBounds_toArray, List.set_cons_zero, List.set_cons_succ, Act.eval, Array.getD_eq_getD_getElem?, List.getElem?_toArray, List.getElem?_cons_succ, List.getElem?_cons_zero, Option.getD_some]
                    refine wpAnyH_take (i := 3) (v := ?_) rfl (by kernel_rfl) (by kernel_rfl) (by kernel_rfl) (fun _ _ _ h => h) (Or.inl ⟨by kernel_rfl, ?_⟩) (by assumption) ?_
                    rotate_left
                    · (intro w hSw; (try dsimp only at hSw); go_simp; (try with_reducible rfl))
                    simp only [Act.put, List.getElem_toArray, List.getElem_cons_succ, List.getElem_cons_zero, List.setIfInBounds_toArray, List.set_cons_zero, List.set_cons_succ, Act.eval, Array.getD_eq_getD_getElem?, List.getElem?_toArray, List.getElem?_cons_succ, List.getElem?_cons_zero, Option.getD_some]
                    refine wpAnyH_take (i := 4) (v := .agg (List.toArray KY)) rfl (by kernel_rfl) (by kernel_rfl) (by kernel_rfl) (fun _ _ _ h => h) (yieldsIf_load_mid (by kernel_rfl) _ (.tmp 71) (by kernel_rfl) b3 (off3 + t * 65) (by kernel_rfl) KY _ (fun W hW => (HQ.out _ hW).1) und27 rfl IY.out) (by assumption) ?_
                    simp only [Act.put, List.getElem_toArray, List.getElem_cons_succ, List.getElem_cons_zero, List.setIfInBounds_toArray, List.set_cons_zero, List.set_cons_succ, Act.eval, Array.getD_eq_getD_getElem?, List.getElem?_toArray, List.getElem?_cons_succ, List.getElem?_cons_zero, Option.getD_some]
                    refine wpAnyH_take (i := 5) rfl (by kernel_rfl) (by kernel_rfl) (by kernel_rfl) (fun _ _ _ h => h) (yi_move (by kernel_rfl) rfl rfl) (by assumption) ?_
                    simp only [Act.put, List.getElem_toArray, List.getElem_cons_succ, List.getElem_cons_zero, List.setIfInBounds_toArray, List.set_cons_zero, List.set_cons_succ, Act.eval, Array.getD_eq_getD_getElem?, List.getElem?_toArray, List.getElem?_cons_succ, List.getElem?_cons_zero, Option.getD_some]
                    refine wpAnyH_take (i := 6) rfl (by kernel_rfl) (by kernel_rfl) (by kernel_rfl) (fun _ _ _ h => h) (yi_move (by kernel_rfl) rfl rfl) (by assumption) ?_
                    simp only [Act.put, List.getElem_toArray, List.getElem_cons_succ, List.getElem_cons_zero, List.setIfInBounds_toArray, List.set_cons_zero, List.set_cons_succ, Act.eval, Array.getD_eq_getD_getElem?, List.getElem?_toArray, List.getElem?_cons_succ, List.getElem?_cons_zero, Option.getD_some]
                    refine wpAnyH_take (i := 7) (v := ?_) rfl (by kernel_rfl) (by kernel_rfl) (by kernel_rfl) (fun _ _ _ h => h) (Or.inl ⟨by kernel_rfl, ?_⟩) (by assumption) ?_
                    rotate_left
                    · (intro w hSw; (try dsimp only at hSw); go_simp; (try with_reducible rfl))
                    simp only [Act.put, List.getElem_toArray, List.getElem_cons_succ, List.getElem_cons_zero, List.setIfInBounds_toArray, List.set_cons_zero, List.set_cons_succ, Act.eval, Array.getD_eq_getD_getElem?, List.getElem?_toArray, List.getElem?_cons_succ, List.getElem?_cons_zero, Option.getD_some]
                    refine wpAnyH_take (i := 8) (v := ?_) rfl (by kernel_rfl) (by kernel_rfl) (by kernel_rfl) (fun _ _ _ h => h) (Or.inl ⟨by kernel_rfl, ?_⟩) (by assumption) ?_
                    rotate_left
                    · (intro w hSw; (try dsimp only at hSw); go_simp; (try with_reducible rfl))
                    simp only [Act.put, List.getElem_toArray, List.getElem_cons_succ, List.getElem_cons_zero, List.setIfInBounds_toArray, List.set_cons_zero, List.set_cons_succ, Act.eval, Array.getD_eq_getD_getElem?, List.getElem?_toArray, List.getElem?_cons_succ, List.getElem?_cons_zero, Option.getD_some]
                    refine wpAnyH_take (i := 9) (v := .agg (List.toArray KX)) rfl (by kernel_rfl) (by kernel_rfl) (by kernel_rfl) (fun _ _ _ h => h) (yieldsIf_load_mid (by kernel_rfl) _ (.tmp 76) (by kernel_rfl) b (off + j * 65) (by kernel_rfl) KX _ (fun W hW => (HQ.out _ hW).2.1) und27 rfl IX.out) (by assumption) ?_
                    simp only [Act.put, List.getElem_toArray, List.getElem_cons_succ, List.getElem_cons_zero, List.setIfInBounds_toArray, List.set_cons_zero, List.set_cons_succ, Act.eval, Array.getD_eq_getD_getElem?, List.getElem?_toArray, List.getElem?_cons_succ, List.getElem?_cons_zero, Option.getD_some]
                    refine wpAnyH_take (i := 10) (v := ?_) rfl (by kernel_rfl) (by kernel_rfl) (by kernel_rfl) (fun _ _ _ h => h) (Or.inl ⟨by kernel_rfl, ?_⟩) (by assumption) ?_
                    rotate_left
                    · (intro w hSw; have hX := HE.out w; go_simp; (try with_reducible rfl))
                    simp only [Act.put, List.getElem_toArray, List.getElem_cons_succ, List.getElem_cons_zero, List.setIfInBounds_toArray, List.set_cons_zero, List.set_cons_succ, Act.eval, Array.getD_eq_getD_getElem?, List.getElem?_toArray, List.getElem?_cons_succ, List.getElem?_cons_zero, Option.getD_some]
                    refine wpAnyH_done (by kernel_rfl) ?_ _
                    refine NoPanic.normal ?_
                    go_wp2_with fail
                    go_roundw
                    case rel => exact ⟨t + 1, by omega, by rw [HH2.out.1], by rw [HH2.out.2], by first | rfl | go_num, bl_tr HB.out ((Bl.refl wr).drew)⟩
                    case measure => simp [intOf]; omega
                · obtain rfl : t = m := by omega
                  have htz : ¬ (t : Int) < (t : Int) := by omega
                  have hc1 : HG.cntK s x.k t = 1 := by rw [HM.out]; exact HONE2.out.1
                  have hi1 : HG.fstK l x j = true → HG.isK s x t = true := fun h => by rw [HM.out]; exact HONE2.out.2 h
                  rw [hc1]
                  have HI1 := hidI hi1
                  clear hc1 hi1
                  cases hf : HG.fstK l x j with
                  | false =>
                    clear hf
                    go_wp2_with fail
                    go_roundw
                    case rel => exact ⟨j + 1, by omega, by first | rfl | go_num, HB.out⟩
                    case measure => simp [intOf]; omega
                  | true =>
                    rw [HI1.out hf]
                    clear hf
                    go_wp2_with fail
                    go_roundw
                    case rel => exact ⟨j + 1, by omega, by first | rfl | go_num, HB.out⟩
                    case measure => simp [intOf]; omega
        · have hiz : ¬ (i : Int) < (n : Int) := by omega
          have hmz : (m : Int) ≤ (n : Int) := by omega
          have hp := HPOS.out
          rw [← HM.out, ← HN.out] at hp
          have HBF := hidI (bl_tr HB3.out HB.out)
          by_cases hm0 : m = 0
          · have hn0 : n = 0 := hp.1 hm0
            have h1 : ¬ (m : Int) > 0 := by omega
            have h2 : ¬ (n : Int) > 0 := by omega
            have h3 : decide ((m : Int) > 0) = false := decide_eq_false h1
            have h4 : decide ((n : Int) > 0) = false := decide_eq_false h2
            have h5 : decide ((m : Int) ≤ (n : Int)) = true := decide_eq_true hmz
            clear hp hm0 hn0
            go_wp2_with fail
            go_ret
            exact ⟨by first | rfl | simp_all, HBF.out⟩
          · have hn0 : n ≠ 0 := fun h => hm0 (hp.2 h)
            have h1 : (m : Int) > 0 := by omega
            have h2 : (n : Int) > 0 := by omega
            have h3 : decide ((m : Int) > 0) = true := decide_eq_true h1
            have h4 : decide ((n : Int) > 0) = true := decide_eq_true h2
            have h5 : decide ((m : Int) ≤ (n : Int)) = true := decide_eq_true hmz
            clear hp hm0 hn0
            go_wp2_with fail
            go_ret
            exact ⟨by first | rfl | simp_all, HBF.out⟩
theorem sorts_walk (l : List HG.R) (v : Value) (w : World) (hG : GW w) (hv : SL w v l) : Calls Tryd.prog 6 #[v] w fun e w' => e = .returned (.bool true) ∧ Bl w w' := by
  by_cases h : 80 < l.length
  · exact so_long l v w hG hv h
  · exact so_main l v w hG hv (by omega)
end Go.Proofs.YtfbjakhanjbaeaaDoor
