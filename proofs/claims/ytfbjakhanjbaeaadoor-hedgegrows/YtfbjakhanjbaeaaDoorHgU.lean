/- The law's own 'awake' is true. -/
import Derived.Test.YtfbjakhanjbaeaaDoorHq9
namespace Go.Proofs.YtfbjakhanjbaeaaDoor
open Go.RowKit Go.Maps Go.Sort Go.Shelf Go.Lib
set_option linter.unusedVariables false
set_option linter.unusedSimpArgs false

theorem yi_build {P : Program} {ops : Array Oper} {S : World → Prop} {o : Oper} {a : Act} {t : TypeId} {ps : Array (Nat × Operand)} {v : Value} (hw : Region.wanted o (yielded ops a.tmps) = true) (ho : o.op = .build t ps) (parts : Array (Nat × Value)) (hp : ps.toList.map (fun p => (p.1, a.eval p.2)) = parts.toList) (hr : ∀ w, (Instr.build t parts).run P w = .ok v w) : YieldsIf P ops S o v a :=
  .inl ⟨hw, fun w _ => by
    have hp' : (ps.map fun (i, x) => (i, a.eval x)) = parts := by rw [← Array.toList_inj, Array.toList_map]; exact hp
    unfold execOp; simp only [ho, hp', Sem.run_bind, hr, Result.andThen_ok, Sem.run_pure]⟩
namespace HG
def kx : List UInt8 := 27 :: List.replicate 31 0
def x0 : R := ⟨kx, 0, List.replicate 32 0, by simp [kx], by simp, by decide, by decide⟩
def g9 : G := ⟨9, 0, 0, List.replicate 32 0, by simp⟩
theorem srt_one (x : R) : srt [x] = [x] := by unfold srt; rw [SS.iso_one]; rfl
theorem srt_two (x : R) : srt [x, x] = [x] := by
  unfold srt
  have h : SS.iso lt [x, x] = [x, x] := by
    show SS.mrg lt [x] (SS.iso lt [x]) = _
    rw [SS.iso_one]
    have := SS.mrg_no (lt := lt) (x := x) (y := x) [] [] (wk.irr x)
    rw [this, SS.mrg_nil_left]
  rw [h]
  show x :: SS.cpa.go eqK x [x] = _
  rw [SS.cpa.go, if_pos (by unfold eqK; simp)]; rfl
theorem pre_x : pre kx 4 = 27 := by decide
theorem in0 : inn (g0 4 27) kx = true := by decide
theorem items0 : items (g0 4 27) [x0] = [x0] := by
  unfold items
  have : [x0].filter (fun x => inn (g0 4 27) x.k) = [x0] := by
    rw [List.filter_cons, if_pos (show inn (g0 4 27) x0.k = true from in0)]; rfl
  rw [this, srt_one]
theorem rng_n : (rng 4 27 [x0]).n = 1 := by show (((items (g0 4 27) [x0]).length : Nat) : Int) = 1; rw [items0]; rfl
theorem inn_of (r : G) (n : Int) (k : List UInt8) (h : 0 ≤ n ∧ n ≤ 1048576) (h2 : r.n = n) : inn r k = inn (g0 r.d r.p) k := by
  subst h2
  unfold inn good
  show (pl r.d r.p && decide (0 ≤ r.n ∧ r.n ≤ 1048576) && decide ((pre k r.d.toNat : Int) = r.p)) = (pl r.d r.p && decide ((0 : Int) ≤ 0 ∧ (0 : Int) ≤ 1048576) && decide ((pre k r.d.toNat : Int) = r.p))
  rw [decide_eq_true h, decide_eq_true (show (0 : Int) ≤ 0 ∧ (0 : Int) ≤ 1048576 by decide)]
theorem in1 : inn (rng 4 27 [x0]) kx = true := by rw [inn_of _ 1 _ (by decide) rng_n]; exact in0
theorem good1 : good (rng 4 27 [x0]) = true := by have := in1; unfold inn at this; rw [Bool.and_eq_true] at this; exact this.1
theorem good9 : good g9 = false := by decide
theorem items2 : items (rng 4 27 [x0]) [x0, x0] = [x0] := by
  unfold items
  have h : inn (rng 4 27 [x0]) x0.k = true := in1
  have : [x0, x0].filter (fun x => inn (rng 4 27 [x0]) x.k) = [x0, x0] := by
    rw [List.filter_cons, if_pos h, List.filter_cons, if_pos h]; rfl
  rw [this, srt_two]
theorem of1 : ofG 0 0 [] = rng 0 0 [] ∧ ofE 0 0 = 0 := by unfold ofG ofE; rw [show pl 0 0 = true by decide]; exact ⟨rfl, rfl⟩
theorem of2 : ofG 4 27 [x0] = rng 4 27 [x0] ∧ ofE 4 27 = 0 := by unfold ofG ofE; rw [show pl 4 27 = true by decide]; exact ⟨rfl, rfl⟩
theorem of3 : ofE 4 256 = 1 := by unfold ofE; rw [show pl 4 256 = false by decide]; rfl
theorem rng_0 : (rng 0 0 []).n = 0 ∧ (rng 0 0 []).s = S.sha (M.rowB []) := by
  have : items (g0 0 0) [] = [] := rfl
  constructor
  · show (((items (g0 0 0) []).length : Nat) : Int) = 0
    rw [this]; rfl
  · show S.sha (M.rowB ((items (g0 0 0) []).map tx)) = _
    rw [this, List.map_nil]
end HG
theorem build_k : Tryd.prog.built 24 [(0, .int .u8 27)] = some (dg HG.kx) := by kernel_rfl
theorem build_x : Tryd.prog.built 48 [(0, .agg (dg HG.kx))] = some (fR HG.x0).toArray := by kernel_rfl
theorem build_9 (W : World) : (Instr.build 26 #[(0, .int .i64 9)]).run Tryd.prog W = .ok (.agg (fG HG.g9).toArray) W := by kernel_rfl
theorem SL.nil (W : World) : SL W (.slice none 0 0) [] := ⟨none, 0, rfl, RS.nil lyR W none, fun _ => ⟨rfl, rfl⟩⟩
theorem sl_blk {W : World} {g n : Nat} {l : List HG.R} {C : List Value} (h : W.heap[g]? = some (.cells C.toArray 48 (0, 0))) (hC : flG lyR l = C) (hn : n = l.length) : SL W (.slice (some ⟨g, 0, none⟩) n n) l := by
  subst hn
  exact ⟨some ⟨g, 0, none⟩, l.length, rfl, rs_of lyR hC h, fun h => by cases h⟩
attribute [local go_sem ↓] zRgW zRecW
set_option maxHeartbeats 8000000 in
set_option maxRecDepth 8000 in
theorem awake_15 (W : World) (hG : GW W) : Calls Tryd.prog 8 #[] W fun e w' => e = .returned (.bool true) ∧ Bl W w' := by
  have HGW : Hid (∀ U, Bl W U → GW U) := fun U h => hG.below h hG.z
  obtain ⟨A1, hA1⟩ : ∃ A1, A1 = fG (HG.rng 0 0 []) := ⟨_, rfl⟩
  obtain ⟨G2, hG2⟩ : ∃ G2, G2 = fG (HG.rng 4 27 [HG.x0]) := ⟨_, rfl⟩
  obtain ⟨A3, hA3⟩ : ∃ A3, A3 = fG (HG.ofG 4 256 []) := ⟨_, rfl⟩
  obtain ⟨X, hX⟩ : ∃ X, X = fR HG.x0 := ⟨_, rfl⟩
  obtain ⟨KX, hKX⟩ : ∃ KX, KX = HG.kx.map vb := ⟨_, rfl⟩
  obtain ⟨D1, hD1⟩ : ∃ D1, D1 = (S.sha (M.rowB [])).map vb := ⟨_, rfl⟩
  obtain ⟨XX, hXX⟩ : ∃ XX, XX = X ++ X := ⟨_, rfl⟩
  obtain ⟨C9, hC9⟩ : ∃ C9, C9 = (fG HG.g9).toArray := ⟨_, rfl⟩
  have C1 : Hid (∀ U, Bl W U → Calls Tryd.prog 9 #[.int .i64 0, .int .i64 0, .slice none 0 0] U fun e w' => e = .returned (.tuple #[.agg A1.toArray, .int .i64 0]) ∧ Bl U w') := fun U h => by
    have := Of_x 0 0 [] _ U (HGW.out U h) (SL.nil U) (by simp)
    rw [HG.of1.1, HG.of1.2, ← hA1] at this; exact this
  have C2 : Hid (∀ U g, Bl W U → U.heap[g]? = some (.cells X.toArray 48 (0, 0)) → Calls Tryd.prog 9 #[.int .i64 4, .int .i64 27, .slice (some ⟨g, 0, none⟩) 1 1] U fun e w' => e = .returned (.tuple #[.agg G2.toArray, .int .i64 0]) ∧ Bl U w') := fun U g h hg => by
    have := Of_x 4 27 [HG.x0] _ U (HGW.out U h) (sl_blk hg (by rw [hX]; simp [flG, lyR]) rfl) (by simp)
    rw [HG.of2.1, HG.of2.2, ← hG2] at this; exact this
  have C3 : Hid (∀ U, Bl W U → Calls Tryd.prog 9 #[.int .i64 4, .int .i64 256, .slice none 0 0] U fun e w' => e = .returned (.tuple #[.agg A3.toArray, .int .i64 1]) ∧ Bl U w') := fun U h => by
    have := Of_x 4 256 [] _ U (HGW.out U h) (SL.nil U) (by simp)
    rw [HG.of3, ← hA3] at this; exact this
  have CR : Hid (∀ U, Bl W U → Calls Tryd.prog 26 #[.slice none 0 0] U fun e w' => e = .returned (.agg D1.toArray) ∧ Bl U w') := fun U h => by
    have h0 : U.ownsRow U.heap.size 9 1 (.slice none 0 0) ([] : List (List UInt8)).length (([] : List (List UInt8)).map encS) := ⟨rfl, Or.inl ⟨rfl, rfl⟩⟩
    have := Row_at [] (.slice none 0 0) U (HGW.out U h) (strs_of_owns h0) (by decide) (by decide)
    rw [hD1]; exact this
  have CI : Hid (∀ U, Calls Tryd.prog 21 #[.agg G2.toArray, .agg KX.toArray] U fun e w' => e = .returned (.bool true) ∧ Gn U w') := fun U => by
    have := In_gn (HG.rng 4 27 [HG.x0]) HG.kx (by simp [HG.kx]) U
    rw [HG.in1, ← hG2] at this; rw [hKX]; exact this
  have CG : Hid (∀ U, Calls Tryd.prog 19 #[.agg G2.toArray] U fun e w' => e = .returned (.bool true) ∧ Gn U w') := fun U => by
    have := Good_gn (HG.rng 4 27 [HG.x0]) U
    rw [HG.good1, ← hG2] at this; exact this
  have CG9 : Hid (∀ U, Calls Tryd.prog 19 #[.agg C9] U fun e w' => e = .returned (.bool false) ∧ Gn U w') := fun U => by
    have := Good_gn HG.g9 U
    rw [HG.good9, ← hC9] at this; exact this
  have CT : Hid (∀ U g, U.heap[g]? = some (.cells XX.toArray 48 (0, 0)) → Calls Tryd.prog 15 #[.agg G2.toArray, .slice (some ⟨g, 0, none⟩) 2 2] U fun e w' => ∃ a c, e = .returned (.slice a 1 c) ∧ Bl U w') := fun U g hg => by
    have h := Items_x (HG.rng 4 27 [HG.x0]) [HG.x0, HG.x0] _ U (sl_blk (n := 2) hg (by rw [hXX, hX]; simp [flG, lyR]) rfl) (by simp)
    rw [← hG2, HG.items2] at h
    refine Calls.mono h ?_
    rintro e w' ⟨v', rfl, o, b⟩
    obtain ⟨a, c, rfl, _⟩ := owns_rs lyR (ks := [HG.x0]) o
    exact ⟨a, c, rfl, b⟩
  have HB9 : Hid (∀ w, (Instr.build 26 #[(0, .int .i64 9)]).run Tryd.prog w = .ok (.agg C9) w) := fun w => by rw [hC9]; exact build_9 w
  have HEQ : Hid (∀ w, (Op.equalIn 10000 24 (.agg D1.toArray) (.agg D1.toArray)).run Tryd.prog w = .ok true w) := fun w => by
    have := eqDg (S.sha (M.rowB [])) (S.sha (M.rowB [])) (S.sha_length _) (S.sha_length _) w
    rw [decide_eq_true rfl] at this
    rw [hD1]; exact this
  have BK : Hid (Tryd.prog.built 24 [(0, .int .u8 27)] = some KX.toArray) := by show _ = _; rw [hKX]; exact build_k
  have BX : Hid (Tryd.prog.built 48 [(0, .agg KX.toArray)] = some X.toArray) := by show _ = _; rw [hKX, hX]; exact build_x
  have LA1 : Hid (A1.length = 35 ∧ ∀ u ∈ A1, u.oneCell' = true) := by rw [hA1]; exact ⟨fG_len _, fG_one _⟩
  have LG2 : Hid (G2.length = 35 ∧ ∀ u ∈ G2, u.oneCell' = true) := by rw [hG2]; exact ⟨fG_len _, fG_one _⟩
  have LA3 : Hid (A3.length = 35 ∧ ∀ u ∈ A3, u.oneCell' = true) := by rw [hA3]; exact ⟨fG_len _, fG_one _⟩
  have LX : Hid (X.length = 65 ∧ ∀ u ∈ X, u.oneCell' = true) := by rw [hX]; exact ⟨fR_len _, fR_one _⟩
  have HXL := hidI LX.out.1
  have HX1 := hidI (len1 HXL)
  have hXX2 : [X, X].flatten = XX := by rw [hXX]; simp
  have HXX := hidI hXX2
  have I2 : Hid ((Tryd.prog.info? 26).map (·.size) = some G2.length) := by show _ = _; rw [LG2.out.1]; exact infoRg
  have IR : Hid ((Tryd.prog.info? 48).map (·.size) = some X.length) := by show _ = _; rw [LX.out.1]; exact infoRc
  have ID1 : Hid ((Tryd.prog.info? 24).map (·.size) = some D1.length) := by show _ = _; rw [hD1, List.length_map, S.sha_length]; exact info27
  have ID := ID1
  have IK : Hid ((Tryd.prog.info? 24).map (·.size) = some KX.length) := by show _ = _; rw [hKX, List.length_map]; exact info27
  -- the parts of the blocks
  have HP1 : Hid (∀ (U : World) b, U.heap[b]? = some (.cells A1.toArray 26 (0, 0)) → U.rangeAt b 3 D1 ∧ U.cell? ⟨b, 2, none⟩ = some (.int .i64 0)) := fun U b h => by
    refine ⟨range_part h [Value.int .i64 0, Value.int .i64 0, Value.int .i64 (HG.rng 0 0 []).n] D1 [] 3 (by rw [hA1, hD1, ← HG.rng_0.2]; simp [fG]; exact ⟨rfl, rfl⟩) rfl, ?_⟩
    rw [cell_of_row _ _ 2 _ _ _ h, hA1]
    show some (Value.int .i64 (HG.rng 0 0 []).n) = _
    rw [HG.rng_0.1]
  have HP2 : Hid (∀ (U : World) b, U.heap[b]? = some (.cells G2.toArray 26 (0, 0)) → U.cell? ⟨b, 2, none⟩ = some (.int .i64 1)) := fun U b h => by
    rw [cell_of_row _ _ 2 _ _ _ h, hG2]
    show some (Value.int .i64 (HG.rng 4 27 [HG.x0]).n) = _
    rw [HG.rng_n]
  have HPX : Hid (∀ (U : World) b, U.heap[b]? = some (.cells X.toArray 48 (0, 0)) → U.rangeAt b 0 KX) := fun U b h =>
    range_part h [] KX (Value.int .i64 0 :: (List.replicate 32 (0 : UInt8)).map vb) 0 (by rw [hX, hKX]; rfl) rfl
  have HZ : Hid (∀ U : World, (U.alloc (.cells zRg.toArray 26)).heap[U.heap.size]? = some (.cells zRg.toArray 26 (0, 0))) := fun U => heap_alloc_new _ _
  have HZR : Hid (∀ U : World, (U.alloc (.cells zRec.toArray 48)).heap[U.heap.size]? = some (.cells zRec.toArray 48 (0, 0))) := fun U => heap_alloc_new _ _
  have HA : Hid (∀ (U V : World) o, Of1 U.heap.size (U.alloc o) V → Bl U V) := fun U V o h => h.bl ((Bl.refl U).alloc _) (Nat.le_refl _)
  have HZS := hidI zRg_sz
  have HZS2 := hidI zRec_sz
  obtain ⟨gs, huG⟩ := undRg
  obtain ⟨fs, huR⟩ := undRc
  clear hG hA1 hG2 hA3 hX hKX hD1 hXX hC9 hXX2
  have HW0 := hidI (Bl.refl W)
  go_enter Tryd.func8, Tryd.ntmps8
  go_wp2_with (first
    | go_skip
    | (go_at_call 9; refine (C1.out _ HW0.out).mono ?_; clear C1; rintro e w1 ⟨rfl, b1⟩; have HB1 := hidI (HW0.out.step b1); clear b1 HW0)
    | (refine wl_rowU rfl 26 _ _ rfl w1.heap.size A1 rfl rfl 26 zRg.toArray (HZ.out _) 35 infoRg LA1.out.1 HZS.out LA1.out.2 ?_; intro U1 hU1 hU2; have HU1 := hidI hU1; have HBU1 := hidI (HB1.out.step (HA.out _ _ _ hU2)); clear hU1 hU2 HB1)
    | (refine wl_build rfl 24 _ rfl [(0, .int .u8 27)] (by simp only [List.map_toArray, List.map_cons, List.map_nil]; rfl) KX.toArray BK.out ?_)
    | (refine wl_build rfl 48 _ rfl [(0, .agg KX.toArray)] (by simp only [List.map_toArray, List.map_cons, List.map_nil]; rfl) X.toArray BX.out ?_)
    | (refine wl_rowU rfl 48 _ _ rfl U1.heap.size X rfl rfl 48 zRec.toArray (HZR.out _) 65 infoRc LX.out.1 HZS2.out LX.out.2 ?_; intro U2 hU1 hU2; have HU2 := hidI hU1; have hb := HA.out _ _ _ hU2; have HBU2 := hidI (HBU1.out.step hb); have HU1b := hidI (Bl.heap hb HU1.out); clear hU1 hU2 HBU1 hb)
    | (refine wl_midG (by rfl) 48 _ rfl U1.heap.size 0 rfl X _ (range_of HU2.out) huR rfl IR.out ?_)
    | (refine wl_bs (by rfl) 22 48 1 _ rfl [X] (by simp only [List.map_toArray, List.map_cons, List.map_nil]; rfl) rfl 65 HX1.out X (by simp) 72 (.agg zRec.toArray) undRs infoRc3 (by decide) (by decide) (by decide) (by decide) ?_; have HU3 := hidI ((Bl.refl U2).alloc (.cells X.toArray 48)); have HN3 : Hid ((U2.alloc (.cells X.toArray 48)).heap[U2.heap.size]? = some (.cells X.toArray 48 (0, 0))) := heap_alloc_new _ _)
    | (go_at_call 9; refine (C2.out _ _ (HBU2.out.step HU3.out) HN3.out).mono ?_; clear C2; rintro e w3 ⟨rfl, b3⟩; have hb := HU3.out.step b3; have HB3 := hidI (HBU2.out.step hb); have HU1c := hidI (Bl.heap hb HU1b.out); have HU2c := hidI (Bl.heap hb HU2.out); clear hb b3 HU3 HN3)
    | (refine wl_rowU rfl 26 _ _ rfl w3.heap.size G2 rfl rfl 26 zRg.toArray (HZ.out _) 35 infoRg LG2.out.1 HZS.out LG2.out.2 ?_; intro U4 hU1 hU2; have HU4 := hidI hU1; have hb := HA.out _ _ _ hU2; have HBU4 := hidI (HB3.out.step hb); have HU1d := hidI (Bl.heap hb HU1c.out); have HU2d := hidI (Bl.heap hb HU2c.out); clear hU1 hU2 hb HB3)
    | (go_at_call 9; refine (C3.out _ HBU4.out).mono ?_; clear C3; rintro e w5 ⟨rfl, b5⟩; have HB5 := hidI (HBU4.out.step b5); have HU1e := hidI (Bl.heap b5 HU1d.out); have HU2e := hidI (Bl.heap b5 HU2d.out); have HU4e := hidI (Bl.heap b5 HU4.out); clear b5)
    | (refine wl_rowU rfl 26 _ _ rfl w5.heap.size A3 rfl rfl 26 zRg.toArray (HZ.out _) 35 infoRg LA3.out.1 HZS.out LA3.out.2 ?_; intro V0 hU1 hU2; have hb := HA.out _ _ _ hU2; have HBV := hidI (HB5.out.step hb); have HV1 := hidI (Bl.heap hb HU1e.out); have HV2 := hidI (Bl.heap hb HU2e.out); have HV4 := hidI (Bl.heap hb HU4e.out); clear hU1 hU2 hb HB5))
  obtain ⟨b1, hb1⟩ : ∃ b1, b1 = w1.heap.size := ⟨_, rfl⟩
  obtain ⟨bx, hbx⟩ : ∃ bx, bx = U1.heap.size := ⟨_, rfl⟩
  obtain ⟨b2, hb2⟩ : ∃ b2, b2 = w3.heap.size := ⟨_, rfl⟩
  rw [← hb1] at HV1 ⊢
  rw [← hbx] at HV2 ⊢
  rw [← hb2] at HV4 ⊢
  have HQ : Hid (∀ U, Bl V0 U → U.rangeAt b1 3 D1 ∧ U.rangeAt b2 0 G2 ∧ U.rangeAt bx 0 KX ∧ U.rangeAt bx 0 X ∧ U.cell? ⟨b1, 2, none⟩ = some (.int .i64 0) ∧ U.cell? ⟨b2, 2, none⟩ = some (.int .i64 1)) := fun U h => by
    have k1 := Bl.heap h HV1.out
    have k2 := Bl.heap h HV2.out
    have k4 := Bl.heap h HV4.out
    exact ⟨(HP1.out U b1 k1).1, range_of k4, HPX.out U bx k2, range_of k2, (HP1.out U b1 k1).2, HP2.out U b2 k4⟩
  have CR2 : Hid (∀ U, Bl V0 U → Calls Tryd.prog 26 #[.slice none 0 0] U fun e w' => e = .returned (.agg D1.toArray) ∧ Bl U w') := fun U h => CR.out U (HBV.out.step h)
  clear hb1 hbx hb2 HV1 HV2 HV4 HU1 HU2 HU1b HU1c HU2c HU4 HU1d HU2d HU1e HU2e HU4e HP1 HP2 HPX HBU2 HBU4 HZ HZR HA CR
  have CR := CR2
  refine wp_region_noPanic ?_
  refine wp_region_held_drew (S := fun U => Bl V0 U) (by kernel_rfl) ((((HF.start V0).drew)).bl) (fun hHeld => ?_)
  refine wpAnyH_take (i := 0) rfl (by kernel_rfl) (by kernel_rfl) (by kernel_rfl) (fun _ _ _ h => h) (yi_move (by kernel_rfl) rfl rfl) (by assumption) ?_
  simp only [Act.put, List.getElem_toArray, List.getElem_cons_succ, List.getElem_cons_zero, List.setIfInBounds_toArray, List.set_cons_zero, List.set_cons_succ, Act.eval, Array.getD_eq_getD_getElem?, List.getElem?_toArray, List.getElem?_cons_succ, List.getElem?_cons_zero, Option.getD_some]
  refine wpAnyH_take (i := 1) (v := ?_) rfl (by kernel_rfl) (by kernel_rfl) (by kernel_rfl) (fun _ _ _ h => h) (Or.inl ⟨by kernel_rfl, ?_⟩) (by assumption) ?_
  rotate_left
  · (intro w hSw; (try dsimp only at hSw); go_simp; (try with_reducible rfl))
  simp only [Act.put, List.getElem_toArray, List.getElem_cons_succ, List.getElem_cons_zero, List.setIfInBounds_toArray, List.set_cons_zero, List.set_cons_succ, Act.eval, Array.getD_eq_getD_getElem?, List.getElem?_toArray, List.getElem?_cons_succ, List.getElem?_cons_zero, Option.getD_some]
  refine wpAnyH_take (i := 2) rfl (by kernel_rfl) (by kernel_rfl) (by kernel_rfl) (fun _ _ _ h => h) (yi_move (by kernel_rfl) rfl rfl) (by assumption) ?_
  simp only [Act.put, List.getElem_toArray, List.getElem_cons_succ, List.getElem_cons_zero, List.setIfInBounds_toArray, List.set_cons_zero, List.set_cons_succ, Act.eval, Array.getD_eq_getD_getElem?, List.getElem?_toArray, List.getElem?_cons_succ, List.getElem?_cons_zero, Option.getD_some]
  refine wpAnyH_take (i := 3) (v := ?_) rfl (by kernel_rfl) (by kernel_rfl) (by kernel_rfl) (fun _ _ _ h => h) (Or.inl ⟨by kernel_rfl, ?_⟩) (by assumption) ?_
  rotate_left
  · (intro w hSw; (try dsimp only at hSw); go_simp; (try with_reducible rfl))
  simp only [Act.put, List.getElem_toArray, List.getElem_cons_succ, List.getElem_cons_zero, List.setIfInBounds_toArray, List.set_cons_zero, List.set_cons_succ, Act.eval, Array.getD_eq_getD_getElem?, List.getElem?_toArray, List.getElem?_cons_succ, List.getElem?_cons_zero, Option.getD_some]
  refine wpAnyH_take (i := 4) (v := ?_) rfl (by kernel_rfl) (by kernel_rfl) (by kernel_rfl) (fun _ _ _ h => h) (Or.inl ⟨by kernel_rfl, ?_⟩) (by assumption) ?_
  rotate_left
  · (intro w hSw; obtain ⟨_, _, _, _, hX, _⟩ := HQ.out _ hSw; go_simp; (try with_reducible rfl))
  simp only [Act.put, List.getElem_toArray, List.getElem_cons_succ, List.getElem_cons_zero, List.setIfInBounds_toArray, List.set_cons_zero, List.set_cons_succ, Act.eval, Array.getD_eq_getD_getElem?, List.getElem?_toArray, List.getElem?_cons_succ, List.getElem?_cons_zero, Option.getD_some]
  refine wpAnyH_take (i := 5) (v := ?_) rfl (by kernel_rfl) (by kernel_rfl) (by kernel_rfl) (fun _ _ _ h => h) (Or.inl ⟨by kernel_rfl, ?_⟩) (by assumption) ?_
  rotate_left
  · (intro w hSw; (try dsimp only at hSw); go_simp; (try with_reducible rfl))
  simp only [Act.put, List.getElem_toArray, List.getElem_cons_succ, List.getElem_cons_zero, List.setIfInBounds_toArray, List.set_cons_zero, List.set_cons_succ, Act.eval, Array.getD_eq_getD_getElem?, List.getElem?_toArray, List.getElem?_cons_succ, List.getElem?_cons_zero, Option.getD_some]
  refine wpAnyH_take (i := 6) (v := ?_) rfl (by kernel_rfl) (by kernel_rfl) (by kernel_rfl) (fun _ _ _ h => h) (Or.inl ⟨by kernel_rfl, ?_⟩) (by assumption) ?_
  rotate_left
  · (intro w hSw; (try dsimp only at hSw); go_simp; (try with_reducible rfl))
  simp only [Act.put, List.getElem_toArray, List.getElem_cons_succ, List.getElem_cons_zero, List.setIfInBounds_toArray, List.set_cons_zero, List.set_cons_succ, Act.eval, Array.getD_eq_getD_getElem?, List.getElem?_toArray, List.getElem?_cons_succ, List.getElem?_cons_zero, Option.getD_some]
  refine wpAnyH_take (i := 7) rfl (by kernel_rfl) (by kernel_rfl) (by kernel_rfl) (fun _ _ _ h => h) (yi_move (by kernel_rfl) rfl rfl) (by assumption) ?_
  simp only [Act.put, List.getElem_toArray, List.getElem_cons_succ, List.getElem_cons_zero, List.setIfInBounds_toArray, List.set_cons_zero, List.set_cons_succ, Act.eval, Array.getD_eq_getD_getElem?, List.getElem?_toArray, List.getElem?_cons_succ, List.getElem?_cons_zero, Option.getD_some]
  refine wpAnyH_take (i := 8) (v := ?_) rfl (by kernel_rfl) (by kernel_rfl) (by kernel_rfl) (fun _ _ _ h => h) (Or.inl ⟨by kernel_rfl, ?_⟩) (by assumption) ?_
  rotate_left
  · (intro w hSw; (try dsimp only at hSw); go_simp; (try with_reducible rfl))
  simp only [Act.put, List.getElem_toArray, List.getElem_cons_succ, List.getElem_cons_zero, List.setIfInBounds_toArray, List.set_cons_zero, List.set_cons_succ, Act.eval, Array.getD_eq_getD_getElem?, List.getElem?_toArray, List.getElem?_cons_succ, List.getElem?_cons_zero, Option.getD_some]
  refine wpAnyH_take (i := 9) (v := .agg (List.toArray D1)) rfl (by kernel_rfl) (by kernel_rfl) (by kernel_rfl) (fun _ _ _ h => h) (yieldsIf_load_mid (by kernel_rfl) _ (.tmp 32) (by kernel_rfl) b1 3 (by kernel_rfl) D1 _ (fun W hW => (HQ.out _ hW).1) und27 rfl ID1.out) (by assumption) ?_
  simp only [Act.put, List.getElem_toArray, List.getElem_cons_succ, List.getElem_cons_zero, List.setIfInBounds_toArray, List.set_cons_zero, List.set_cons_succ, Act.eval, Array.getD_eq_getD_getElem?, List.getElem?_toArray, List.getElem?_cons_succ, List.getElem?_cons_zero, Option.getD_some]
  refine wpAnyH_ready (rs := [10]) (by kernel_rfl) (by simp) ?_
  refine AllReadyH.cons (o := _) rfl (fun K hK => ?_) AllReadyH.nil
  go_simp
  go_at_call 26; refine (CR.out _ (((HF.start V0).drew)).bl).mono ?_; rintro e V11 ⟨rfl, hV11⟩; have HB11 := (((HF.start V0).drew)).step hV11; clear hV11
  (try clear hHeld)
  refine hK.out _ _ ((HB11).bl) (fun hHeld => ?_)
  clear hK K
  (try simp only [Act.put, List.getElem_toArray, List.getElem_cons_succ, List.getElem_cons_zero, List.setIfInBounds_toArray, List.set_cons_zero, List.set_cons_succ, Act.eval, Array.getD_eq_getD_getElem?, List.getElem?_toArray, List.getElem?_cons_succ, List.getElem?_cons_zero, Option.getD_some])
  refine wpAnyH_take (i := 11) (v := ?_) rfl (by kernel_rfl) (by kernel_rfl) (by kernel_rfl) (fun _ _ _ h => h) (Or.inl ⟨by kernel_rfl, ?_⟩) (by assumption) ?_
  rotate_left
  · (intro w hSw; have hX := HEQ.out w; go_simp; (try with_reducible rfl))
  simp only [Act.put, List.getElem_toArray, List.getElem_cons_succ, List.getElem_cons_zero, List.setIfInBounds_toArray, List.set_cons_zero, List.set_cons_succ, Act.eval, Array.getD_eq_getD_getElem?, List.getElem?_toArray, List.getElem?_cons_succ, List.getElem?_cons_zero, Option.getD_some]
  refine wpAnyH_take (i := 12) (v := ?_) rfl (by kernel_rfl) (by kernel_rfl) (by kernel_rfl) (fun _ _ _ h => h) (Or.inl ⟨by kernel_rfl, ?_⟩) (by assumption) ?_
  rotate_left
  · (intro w hSw; (try dsimp only at hSw); go_simp; (try with_reducible rfl))
  simp only [Act.put, List.getElem_toArray, List.getElem_cons_succ, List.getElem_cons_zero, List.setIfInBounds_toArray, List.set_cons_zero, List.set_cons_succ, Act.eval, Array.getD_eq_getD_getElem?, List.getElem?_toArray, List.getElem?_cons_succ, List.getElem?_cons_zero, Option.getD_some]
  refine wpAnyH_take (i := 13) rfl (by kernel_rfl) (by kernel_rfl) (by kernel_rfl) (fun _ _ _ h => h) (yi_move (by kernel_rfl) rfl rfl) (by assumption) ?_
  simp only [Act.put, List.getElem_toArray, List.getElem_cons_succ, List.getElem_cons_zero, List.setIfInBounds_toArray, List.set_cons_zero, List.set_cons_succ, Act.eval, Array.getD_eq_getD_getElem?, List.getElem?_toArray, List.getElem?_cons_succ, List.getElem?_cons_zero, Option.getD_some]
  refine wpAnyH_take (i := 14) rfl (by kernel_rfl) (by kernel_rfl) (by kernel_rfl) (fun _ _ _ h => h) (yi_move (by kernel_rfl) rfl rfl) (by assumption) ?_
  simp only [Act.put, List.getElem_toArray, List.getElem_cons_succ, List.getElem_cons_zero, List.setIfInBounds_toArray, List.set_cons_zero, List.set_cons_succ, Act.eval, Array.getD_eq_getD_getElem?, List.getElem?_toArray, List.getElem?_cons_succ, List.getElem?_cons_zero, Option.getD_some]
  refine wpAnyH_take (i := 15) (v := ?_) rfl (by kernel_rfl) (by kernel_rfl) (by kernel_rfl) (fun _ _ _ h => h) (Or.inl ⟨by kernel_rfl, ?_⟩) (by assumption) ?_
  rotate_left
  · (intro w hSw; (try dsimp only at hSw); go_simp; (try with_reducible rfl))
  simp only [Act.put, List.getElem_toArray, List.getElem_cons_succ, List.getElem_cons_zero, List.setIfInBounds_toArray, List.set_cons_zero, List.set_cons_succ, Act.eval, Array.getD_eq_getD_getElem?, List.getElem?_toArray, List.getElem?_cons_succ, List.getElem?_cons_zero, Option.getD_some]
  refine wpAnyH_take (i := 16) (v := ?_) rfl (by kernel_rfl) (by kernel_rfl) (by kernel_rfl) (fun _ _ _ h => h) (Or.inl ⟨by kernel_rfl, ?_⟩) (by assumption) ?_
  rotate_left
  · (intro w hSw; (try dsimp only at hSw); go_simp; (try with_reducible rfl))
  simp only [Act.put, List.getElem_toArray, List.getElem_cons_succ, List.getElem_cons_zero, List.setIfInBounds_toArray, List.set_cons_zero, List.set_cons_succ, Act.eval, Array.getD_eq_getD_getElem?, List.getElem?_toArray, List.getElem?_cons_succ, List.getElem?_cons_zero, Option.getD_some]
  refine wpAnyH_take (i := 17) rfl (by kernel_rfl) (by kernel_rfl) (by kernel_rfl) (fun _ _ _ h => h) (yi_move (by kernel_rfl) rfl rfl) (by assumption) ?_
  simp only [Act.put, List.getElem_toArray, List.getElem_cons_succ, List.getElem_cons_zero, List.setIfInBounds_toArray, List.set_cons_zero, List.set_cons_succ, Act.eval, Array.getD_eq_getD_getElem?, List.getElem?_toArray, List.getElem?_cons_succ, List.getElem?_cons_zero, Option.getD_some]
  refine wpAnyH_take (i := 18) (v := ?_) rfl (by kernel_rfl) (by kernel_rfl) (by kernel_rfl) (fun _ _ _ h => h) (Or.inl ⟨by kernel_rfl, ?_⟩) (by assumption) ?_
  rotate_left
  · (intro w hSw; (try dsimp only at hSw); go_simp; (try with_reducible rfl))
  simp only [Act.put, List.getElem_toArray, List.getElem_cons_succ, List.getElem_cons_zero, List.setIfInBounds_toArray, List.set_cons_zero, List.set_cons_succ, Act.eval, Array.getD_eq_getD_getElem?, List.getElem?_toArray, List.getElem?_cons_succ, List.getElem?_cons_zero, Option.getD_some]
  refine wpAnyH_take (i := 19) (v := ?_) rfl (by kernel_rfl) (by kernel_rfl) (by kernel_rfl) (fun _ _ _ h => h) (Or.inl ⟨by kernel_rfl, ?_⟩) (by assumption) ?_
  rotate_left
  · (intro w hSw; obtain ⟨_, _, _, _, _, hX⟩ := HQ.out _ hSw; go_simp; (try with_reducible rfl))
  simp only [Act.put, List.getElem_toArray, List.getElem_cons_succ, List.getElem_cons_zero, List.setIfInBounds_toArray, List.set_cons_zero, List.set_cons_succ, Act.eval, Array.getD_eq_getD_getElem?, List.getElem?_toArray, List.getElem?_cons_succ, List.getElem?_cons_zero, Option.getD_some]
  refine wpAnyH_take (i := 20) (v := ?_) rfl (by kernel_rfl) (by kernel_rfl) (by kernel_rfl) (fun _ _ _ h => h) (Or.inl ⟨by kernel_rfl, ?_⟩) (by assumption) ?_
  rotate_left
  · (intro w hSw; (try dsimp only at hSw); go_simp; (try with_reducible rfl))
  simp only [Act.put, List.getElem_toArray, List.getElem_cons_succ, List.getElem_cons_zero, List.setIfInBounds_toArray, List.set_cons_zero, List.set_cons_succ, Act.eval, Array.getD_eq_getD_getElem?, List.getElem?_toArray, List.getElem?_cons_succ, List.getElem?_cons_zero, Option.getD_some]
  refine wpAnyH_take (i := 21) (v := ?_) rfl (by kernel_rfl) (by kernel_rfl) (by kernel_rfl) (fun _ _ _ h => h) (Or.inl ⟨by kernel_rfl, ?_⟩) (by assumption) ?_
  rotate_left
  · (intro w hSw; (try dsimp only at hSw); go_simp; (try with_reducible rfl))
  simp only [Act.put, List.getElem_toArray, List.getElem_cons_succ, List.getElem_cons_zero, List.setIfInBounds_toArray, List.set_cons_zero, List.set_cons_succ, Act.eval, Array.getD_eq_getD_getElem?, List.getElem?_toArray, List.getElem?_cons_succ, List.getElem?_cons_zero, Option.getD_some]
  refine wpAnyH_take (i := 22) rfl (by kernel_rfl) (by kernel_rfl) (by kernel_rfl) (fun _ _ _ h => h) (yi_move (by kernel_rfl) rfl rfl) (by assumption) ?_
  simp only [Act.put, List.getElem_toArray, List.getElem_cons_succ, List.getElem_cons_zero, List.setIfInBounds_toArray, List.set_cons_zero, List.set_cons_succ, Act.eval, Array.getD_eq_getD_getElem?, List.getElem?_toArray, List.getElem?_cons_succ, List.getElem?_cons_zero, Option.getD_some]
  refine wpAnyH_take (i := 23) rfl (by kernel_rfl) (by kernel_rfl) (by kernel_rfl) (fun _ _ _ h => h) (yi_move (by kernel_rfl) rfl rfl) (by assumption) ?_
  simp only [Act.put, List.getElem_toArray, List.getElem_cons_succ, List.getElem_cons_zero, List.setIfInBounds_toArray, List.set_cons_zero, List.set_cons_succ, Act.eval, Array.getD_eq_getD_getElem?, List.getElem?_toArray, List.getElem?_cons_succ, List.getElem?_cons_zero, Option.getD_some]
  refine wpAnyH_take (i := 24) (v := ?_) rfl (by kernel_rfl) (by kernel_rfl) (by kernel_rfl) (fun _ _ _ h => h) (Or.inl ⟨by kernel_rfl, ?_⟩) (by assumption) ?_
  rotate_left
  · (intro w hSw; (try dsimp only at hSw); go_simp; (try with_reducible rfl))
  simp only [Act.put, List.getElem_toArray, List.getElem_cons_succ, List.getElem_cons_zero, List.setIfInBounds_toArray, List.set_cons_zero, List.set_cons_succ, Act.eval, Array.getD_eq_getD_getElem?, List.getElem?_toArray, List.getElem?_cons_succ, List.getElem?_cons_zero, Option.getD_some]
  refine wpAnyH_take (i := 25) (v := ?_) rfl (by kernel_rfl) (by kernel_rfl) (by kernel_rfl) (fun _ _ _ h => h) (Or.inl ⟨by kernel_rfl, ?_⟩) (by assumption) ?_
  rotate_left
  · (intro w hSw; (try dsimp only at hSw); go_simp; (try with_reducible rfl))
  simp only [Act.put, List.getElem_toArray, List.getElem_cons_succ, List.getElem_cons_zero, List.setIfInBounds_toArray, List.set_cons_zero, List.set_cons_succ, Act.eval, Array.getD_eq_getD_getElem?, List.getElem?_toArray, List.getElem?_cons_succ, List.getElem?_cons_zero, Option.getD_some]
  refine wpAnyH_take (i := 26) rfl (by kernel_rfl) (by kernel_rfl) (by kernel_rfl) (fun _ _ _ h => h) (yi_move (by kernel_rfl) rfl rfl) (by assumption) ?_
  simp only [Act.put, List.getElem_toArray, List.getElem_cons_succ, List.getElem_cons_zero, List.setIfInBounds_toArray, List.set_cons_zero, List.set_cons_succ, Act.eval, Array.getD_eq_getD_getElem?, List.getElem?_toArray, List.getElem?_cons_succ, List.getElem?_cons_zero, Option.getD_some]
  refine wpAnyH_take (i := 27) (v := .agg (List.toArray G2)) rfl (by kernel_rfl) (by kernel_rfl) (by kernel_rfl) (fun _ _ _ h => h) (yieldsIf_load_mid (by kernel_rfl) _ (.tmp 4) (by kernel_rfl) b2 0 (by kernel_rfl) G2 _ (fun W hW => (HQ.out _ hW).2.1) huG rfl I2.out) (by assumption) ?_
  simp only [Act.put, List.getElem_toArray, List.getElem_cons_succ, List.getElem_cons_zero, List.setIfInBounds_toArray, List.set_cons_zero, List.set_cons_succ, Act.eval, Array.getD_eq_getD_getElem?, List.getElem?_toArray, List.getElem?_cons_succ, List.getElem?_cons_zero, Option.getD_some]
  refine wpAnyH_take (i := 28) (v := ?_) rfl (by kernel_rfl) (by kernel_rfl) (by kernel_rfl) (fun _ _ _ h => h) (Or.inl ⟨by kernel_rfl, ?_⟩) (by assumption) ?_
  rotate_left
  · (intro w hSw; (try dsimp only at hSw); go_simp; (try with_reducible rfl))
  simp only [Act.put, List.getElem_toArray, List.getElem_cons_succ, List.getElem_cons_zero, List.setIfInBounds_toArray, List.set_cons_zero, List.set_cons_succ, Act.eval, Array.getD_eq_getD_getElem?, List.getElem?_toArray, List.getElem?_cons_succ, List.getElem?_cons_zero, Option.getD_some]
  refine wpAnyH_take (i := 29) (v := .agg (List.toArray KX)) rfl (by kernel_rfl) (by kernel_rfl) (by kernel_rfl) (fun _ _ _ h => h) (yieldsIf_load_mid (by kernel_rfl) _ (.tmp 52) (by kernel_rfl) bx 0 (by kernel_rfl) KX _ (fun W hW => (HQ.out _ hW).2.2.1) und27 rfl IK.out) (by assumption) ?_
  simp only [Act.put, List.getElem_toArray, List.getElem_cons_succ, List.getElem_cons_zero, List.setIfInBounds_toArray, List.set_cons_zero, List.set_cons_succ, Act.eval, Array.getD_eq_getD_getElem?, List.getElem?_toArray, List.getElem?_cons_succ, List.getElem?_cons_zero, Option.getD_some]
  refine wpAnyH_ready (rs := [30]) (by kernel_rfl) (by simp) ?_
  refine AllReadyH.cons (o := _) rfl (fun K hK => ?_) AllReadyH.nil
  go_simp
  go_at_call 21; refine (CI.out _).mono ?_; rintro e V31 ⟨rfl, hV31⟩; have HB31 := (HB11).step (gn_bl hV31); clear hV31
  (try clear hHeld)
  refine hK.out _ _ ((HB31).bl) (fun hHeld => ?_)
  clear hK K
  (try simp only [Act.put, List.getElem_toArray, List.getElem_cons_succ, List.getElem_cons_zero, List.setIfInBounds_toArray, List.set_cons_zero, List.set_cons_succ, Act.eval, Array.getD_eq_getD_getElem?, List.getElem?_toArray, List.getElem?_cons_succ, List.getElem?_cons_zero, Option.getD_some])
  refine wpAnyH_take (i := 31) (v := ?_) rfl (by kernel_rfl) (by kernel_rfl) (by kernel_rfl) (fun _ _ _ h => h) (Or.inl ⟨by kernel_rfl, ?_⟩) (by assumption) ?_
  rotate_left
  · (intro w hSw; (try dsimp only at hSw); go_simp; (try with_reducible rfl))
  simp only [Act.put, List.getElem_toArray, List.getElem_cons_succ, List.getElem_cons_zero, List.setIfInBounds_toArray, List.set_cons_zero, List.set_cons_succ, Act.eval, Array.getD_eq_getD_getElem?, List.getElem?_toArray, List.getElem?_cons_succ, List.getElem?_cons_zero, Option.getD_some]
  refine wpAnyH_take (i := 32) rfl (by kernel_rfl) (by kernel_rfl) (by kernel_rfl) (fun _ _ _ h => h) (yi_move (by kernel_rfl) rfl rfl) (by assumption) ?_
  simp only [Act.put, List.getElem_toArray, List.getElem_cons_succ, List.getElem_cons_zero, List.setIfInBounds_toArray, List.set_cons_zero, List.set_cons_succ, Act.eval, Array.getD_eq_getD_getElem?, List.getElem?_toArray, List.getElem?_cons_succ, List.getElem?_cons_zero, Option.getD_some]
  refine wpAnyH_take (i := 33) (v := .agg (List.toArray G2)) rfl (by kernel_rfl) (by kernel_rfl) (by kernel_rfl) (fun _ _ _ h => h) (yieldsIf_load_mid (by kernel_rfl) _ (.tmp 4) (by kernel_rfl) b2 0 (by kernel_rfl) G2 _ (fun W hW => (HQ.out _ hW).2.1) huG rfl I2.out) (by assumption) ?_
  simp only [Act.put, List.getElem_toArray, List.getElem_cons_succ, List.getElem_cons_zero, List.setIfInBounds_toArray, List.set_cons_zero, List.set_cons_succ, Act.eval, Array.getD_eq_getD_getElem?, List.getElem?_toArray, List.getElem?_cons_succ, List.getElem?_cons_zero, Option.getD_some]
  refine wpAnyH_ready (rs := [34]) (by kernel_rfl) (by simp) ?_
  refine AllReadyH.cons (o := _) rfl (fun K hK => ?_) AllReadyH.nil
  go_simp
  go_at_call 19; refine (CG.out _).mono ?_; rintro e V35 ⟨rfl, hV35⟩; have HB35 := (HB31).step (gn_bl hV35); clear hV35
  (try clear hHeld)
  refine hK.out _ _ ((HB35).bl) (fun hHeld => ?_)
  clear hK K
  (try simp only [Act.put, List.getElem_toArray, List.getElem_cons_succ, List.getElem_cons_zero, List.setIfInBounds_toArray, List.set_cons_zero, List.set_cons_succ, Act.eval, Array.getD_eq_getD_getElem?, List.getElem?_toArray, List.getElem?_cons_succ, List.getElem?_cons_zero, Option.getD_some])
  refine wpAnyH_take (i := 35) (v := ?_) rfl (by kernel_rfl) (by kernel_rfl) (by kernel_rfl) (fun _ _ _ h => h) (Or.inl ⟨by kernel_rfl, ?_⟩) (by assumption) ?_
  rotate_left
  · (intro w hSw; (try dsimp only at hSw); go_simp; (try with_reducible rfl))
  simp only [Act.put, List.getElem_toArray, List.getElem_cons_succ, List.getElem_cons_zero, List.setIfInBounds_toArray, List.set_cons_zero, List.set_cons_succ, Act.eval, Array.getD_eq_getD_getElem?, List.getElem?_toArray, List.getElem?_cons_succ, List.getElem?_cons_zero, Option.getD_some]
  refine wpAnyH_take (i := 36) rfl (by kernel_rfl) (by kernel_rfl) (by kernel_rfl) (fun _ _ _ h => h) (yi_move (by kernel_rfl) rfl rfl) (by assumption) ?_
  simp only [Act.put, List.getElem_toArray, List.getElem_cons_succ, List.getElem_cons_zero, List.setIfInBounds_toArray, List.set_cons_zero, List.set_cons_succ, Act.eval, Array.getD_eq_getD_getElem?, List.getElem?_toArray, List.getElem?_cons_succ, List.getElem?_cons_zero, Option.getD_some]
  refine wpAnyH_take (i := 37) (v := .agg C9) rfl (by kernel_rfl) (by kernel_rfl) (by kernel_rfl) (fun _ _ _ h => h) (yi_build (by kernel_rfl) rfl _ (by rfl) (fun w => HB9.out w)) (by assumption) ?_
  simp only [Act.put, List.getElem_toArray, List.getElem_cons_succ, List.getElem_cons_zero, List.setIfInBounds_toArray, List.set_cons_zero, List.set_cons_succ, Act.eval, Array.getD_eq_getD_getElem?, List.getElem?_toArray, List.getElem?_cons_succ, List.getElem?_cons_zero, Option.getD_some]
  refine wpAnyH_ready (rs := [38]) (by kernel_rfl) (by simp) ?_
  refine AllReadyH.cons (o := _) rfl (fun K hK => ?_) AllReadyH.nil
  go_simp
  go_at_call 19; refine (CG9.out _).mono ?_; rintro e V39 ⟨rfl, hV39⟩; have HB39 := (HB35).step (gn_bl hV39); clear hV39
  (try clear hHeld)
  refine hK.out _ _ ((HB39).bl) (fun hHeld => ?_)
  clear hK K
  (try simp only [Act.put, List.getElem_toArray, List.getElem_cons_succ, List.getElem_cons_zero, List.setIfInBounds_toArray, List.set_cons_zero, List.set_cons_succ, Act.eval, Array.getD_eq_getD_getElem?, List.getElem?_toArray, List.getElem?_cons_succ, List.getElem?_cons_zero, Option.getD_some])
  refine wpAnyH_take (i := 39) (v := ?_) rfl (by kernel_rfl) (by kernel_rfl) (by kernel_rfl) (fun _ _ _ h => h) (Or.inl ⟨by kernel_rfl, ?_⟩) (by assumption) ?_
  rotate_left
  · (intro w hSw; (try dsimp only at hSw); go_simp; (try with_reducible rfl))
  simp only [Act.put, List.getElem_toArray, List.getElem_cons_succ, List.getElem_cons_zero, List.setIfInBounds_toArray, List.set_cons_zero, List.set_cons_succ, Act.eval, Array.getD_eq_getD_getElem?, List.getElem?_toArray, List.getElem?_cons_succ, List.getElem?_cons_zero, Option.getD_some]
  refine wpAnyH_take (i := 40) (v := ?_) rfl (by kernel_rfl) (by kernel_rfl) (by kernel_rfl) (fun _ _ _ h => h) (Or.inl ⟨by kernel_rfl, ?_⟩) (by assumption) ?_
  rotate_left
  · (intro w hSw; (try dsimp only at hSw); go_simp; (try with_reducible rfl))
  simp only [Act.put, List.getElem_toArray, List.getElem_cons_succ, List.getElem_cons_zero, List.setIfInBounds_toArray, List.set_cons_zero, List.set_cons_succ, Act.eval, Array.getD_eq_getD_getElem?, List.getElem?_toArray, List.getElem?_cons_succ, List.getElem?_cons_zero, Option.getD_some]
  refine wpAnyH_take (i := 41) rfl (by kernel_rfl) (by kernel_rfl) (by kernel_rfl) (fun _ _ _ h => h) (yi_move (by kernel_rfl) rfl rfl) (by assumption) ?_
  simp only [Act.put, List.getElem_toArray, List.getElem_cons_succ, List.getElem_cons_zero, List.setIfInBounds_toArray, List.set_cons_zero, List.set_cons_succ, Act.eval, Array.getD_eq_getD_getElem?, List.getElem?_toArray, List.getElem?_cons_succ, List.getElem?_cons_zero, Option.getD_some]
  refine wpAnyH_take (i := 42) (v := .agg (List.toArray G2)) rfl (by kernel_rfl) (by kernel_rfl) (by kernel_rfl) (fun _ _ _ h => h) (yieldsIf_load_mid (by kernel_rfl) _ (.tmp 4) (by kernel_rfl) b2 0 (by kernel_rfl) G2 _ (fun W hW => (HQ.out _ hW).2.1) huG rfl I2.out) (by assumption) ?_
  simp only [Act.put, List.getElem_toArray, List.getElem_cons_succ, List.getElem_cons_zero, List.setIfInBounds_toArray, List.set_cons_zero, List.set_cons_succ, Act.eval, Array.getD_eq_getD_getElem?, List.getElem?_toArray, List.getElem?_cons_succ, List.getElem?_cons_zero, Option.getD_some]
  refine wpAnyH_take (i := 43) (v := .agg (List.toArray X)) rfl (by kernel_rfl) (by kernel_rfl) (by kernel_rfl) (fun _ _ _ h => h) (yieldsIf_load_mid (by kernel_rfl) _ (.tmp 3) (by kernel_rfl) bx 0 (by kernel_rfl) X _ (fun W hW => (HQ.out _ hW).2.2.2.1) huR rfl IR.out) (by assumption) ?_
  simp only [Act.put, List.getElem_toArray, List.getElem_cons_succ, List.getElem_cons_zero, List.setIfInBounds_toArray, List.set_cons_zero, List.set_cons_succ, Act.eval, Array.getD_eq_getD_getElem?, List.getElem?_toArray, List.getElem?_cons_succ, List.getElem?_cons_zero, Option.getD_some]
  refine wpAnyH_take (i := 44) (v := .agg (List.toArray X)) rfl (by kernel_rfl) (by kernel_rfl) (by kernel_rfl) (fun _ _ _ h => h) (yieldsIf_load_mid (by kernel_rfl) _ (.tmp 3) (by kernel_rfl) bx 0 (by kernel_rfl) X _ (fun W hW => (HQ.out _ hW).2.2.2.1) huR rfl IR.out) (by assumption) ?_
  simp only [Act.put, List.getElem_toArray, List.getElem_cons_succ, List.getElem_cons_zero, List.setIfInBounds_toArray, List.set_cons_zero, List.set_cons_succ, Act.eval, Array.getD_eq_getD_getElem?, List.getElem?_toArray, List.getElem?_cons_succ, List.getElem?_cons_zero, Option.getD_some]
  refine wpAnyH_ready (rs := [45]) (by kernel_rfl) (by simp) ?_
  refine AllReadyH.cons (o := _) rfl (fun K hK => ?_) AllReadyH.nil
  refine so_bs (by kernel_rfl) 22 48 2 _ rfl [X, X] (by simp only [List.map_toArray, List.map_cons, List.map_nil]; rfl) rfl 65 (len2 HXL HXL) XX HXX.out 72 (.agg zRec.toArray) undRs infoRc3 (by omega) (by omega) (by omega) (by omega) (hK.out _ _ ((((HB39).al (.cells XX.toArray 48))).bl) (fun hHeld => ?_))
  clear hK K
  (try simp only [Act.put, List.getElem_toArray, List.getElem_cons_succ, List.getElem_cons_zero, List.setIfInBounds_toArray, List.set_cons_zero, List.set_cons_succ, Act.eval, Array.getD_eq_getD_getElem?, List.getElem?_toArray, List.getElem?_cons_succ, List.getElem?_cons_zero, Option.getD_some])
  refine wpAnyH_ready (rs := [46]) (by kernel_rfl) (by simp) ?_
  refine AllReadyH.cons (o := _) rfl (fun K hK => ?_) AllReadyH.nil
  go_simp
  go_at_call 15; refine (CT.out _ _ ((((HB39).al (.cells XX.toArray 48))).get (by simp))).mono ?_; rintro e V47 ⟨a47, c47, rfl, hV47⟩; have HB47 := (((HB39).al (.cells XX.toArray 48))).step hV47; clear hV47
  (try clear hHeld)
  refine hK.out _ _ ((HB47).bl) (fun hHeld => ?_)
  clear hK K
  (try simp only [Act.put, List.getElem_toArray, List.getElem_cons_succ, List.getElem_cons_zero, List.setIfInBounds_toArray, List.set_cons_zero, List.set_cons_succ, Act.eval, Array.getD_eq_getD_getElem?, List.getElem?_toArray, List.getElem?_cons_succ, List.getElem?_cons_zero, Option.getD_some])
  refine wpAnyH_take (i := 47) (v := ?_) rfl (by kernel_rfl) (by kernel_rfl) (by kernel_rfl) (fun _ _ _ h => h) (Or.inl ⟨by kernel_rfl, ?_⟩) (by assumption) ?_
  rotate_left
  · (intro w hSw; (try dsimp only at hSw); go_simp; (try with_reducible rfl))
  simp only [Act.put, List.getElem_toArray, List.getElem_cons_succ, List.getElem_cons_zero, List.setIfInBounds_toArray, List.set_cons_zero, List.set_cons_succ, Act.eval, Array.getD_eq_getD_getElem?, List.getElem?_toArray, List.getElem?_cons_succ, List.getElem?_cons_zero, Option.getD_some]
  refine wpAnyH_take (i := 48) (v := ?_) rfl (by kernel_rfl) (by kernel_rfl) (by kernel_rfl) (fun _ _ _ h => h) (Or.inl ⟨by kernel_rfl, ?_⟩) (by assumption) ?_
  rotate_left
  · (intro w hSw; (try dsimp only at hSw); go_simp; (try with_reducible rfl))
  simp only [Act.put, List.getElem_toArray, List.getElem_cons_succ, List.getElem_cons_zero, List.setIfInBounds_toArray, List.set_cons_zero, List.set_cons_succ, Act.eval, Array.getD_eq_getD_getElem?, List.getElem?_toArray, List.getElem?_cons_succ, List.getElem?_cons_zero, Option.getD_some]
  refine wpAnyH_take (i := 49) (v := ?_) rfl (by kernel_rfl) (by kernel_rfl) (by kernel_rfl) (fun _ _ _ h => h) (Or.inl ⟨by kernel_rfl, ?_⟩) (by assumption) ?_
  rotate_left
  · (intro w hSw; (try dsimp only at hSw); go_simp; (try with_reducible rfl))
  simp only [Act.put, List.getElem_toArray, List.getElem_cons_succ, List.getElem_cons_zero, List.setIfInBounds_toArray, List.set_cons_zero, List.set_cons_succ, Act.eval, Array.getD_eq_getD_getElem?, List.getElem?_toArray, List.getElem?_cons_succ, List.getElem?_cons_zero, Option.getD_some]
  refine wpAnyH_take (i := 50) rfl (by kernel_rfl) (by kernel_rfl) (by kernel_rfl) (fun _ _ _ h => h) (yi_assign (by kernel_rfl) rfl rfl) (by assumption) ?_
  simp only [Act.put, List.getElem_toArray, List.getElem_cons_succ, List.getElem_cons_zero, List.setIfInBounds_toArray, List.set_cons_zero, List.set_cons_succ, Act.eval, Array.getD_eq_getD_getElem?, List.getElem?_toArray, List.getElem?_cons_succ, List.getElem?_cons_zero, Option.getD_some]
  refine wpAnyH_done (by kernel_rfl) ?_ _
  refine NoPanic.normal ?_
  go_wp2_with fail
  go_ret
  exact ⟨rfl, HBV.out.step (HB47).bl⟩
end Go.Proofs.YtfbjakhanjbaeaaDoor
