/- slices.Grow, slices.Concat at ints. -/
import Derived.Test.YtebmgajijjhinaaSo10
import Derived.Lib.AppendZerosOnto
namespace Go.Proofs.Ytebmgajijjhinaa
open Go.RowKit Go.Maps Go.Lib
set_option linter.unusedVariables false
set_option linter.unusedSimpArgs false

theorem undIn : Try.prog.underlying 3 = some (.int .i64) := Try.underlying3
theorem wl_appRun {ops : Array Oper} {rest : List Oper} {o : Oper} {a : Act} {W W' : World} {Q : Exit → Act → World → Prop} (hgd : o.guard = none) (s x : Operand) (t1 t2 : TypeId) (ho : o.op = .call { callee := .builtin .append, args := #[s, x], argTypes := #[t1, t2] }) (vs vx r : Value) (hs : a.eval s = vs) (hx : a.eval x = vx) (hrun : ∀ ty, (Builtin.append_ #[t1, t2] ty #[vs, vx]).run Try.prog W = .ok r W')
    (h : wpList Try.prog ops Q rest (a.put o.dst r) W') : wpList Try.prog ops Q (o :: rest) a W := by
  refine wpList_plain hgd fun K hK => ?_
  have hK' := hK _ _ h
  unfold Oper.wp
  simp [execOp, ho, resolve, invoke, builtin, hs, hx, hrun, Result.andThen]
  exact hK'
theorem Grow_0 (W : World) : Calls Try.prog 68 #[.slice none 0 0, .int .i64 0] W fun e w' => e = .returned (.slice none 0 0) ∧ w' = W := by
  go_enter Try.func68, Try.ntmps68
  go_wp2_with fail
  go_ret
  exact ⟨rfl, rfl⟩
set_option maxRecDepth 8000 in
theorem Grow_n (n : Nat) (h0 : 0 < n) (hn : n ≤ 100) (W : World) : Calls Try.prog 68 #[.slice none 0 0, .int .i64 n] W fun e w' => ∃ c, e = .returned (.slice (some ⟨W.heap.size, 0, none⟩) 0 c) ∧ w'.ownsRow W.heap.size 3 1 (.slice (some ⟨W.heap.size, 0, none⟩) 0 c) 0 [] ∧ Bl W w' := by
  obtain ⟨i0, hi0, hz0, hz1, hz2⟩ := info_partsT infoIn3
  have hap : ∀ ty, (Builtin.append_ #[23, 3] ty #[.slice none 0 0, .int .i64 n]).run Try.prog W = .ok (.slice (some ⟨W.heap.size, 0, none⟩) (0 + n) (grownCap W (0 + n) 0 3)) (W.drew.alloc (.cells (([] : List Value).toArray ++ Builtin.zeroCells (Value.int .i64 0).cells n ++ Builtin.zeroCells (Value.int .i64 0).cells (grownCap W (0 + n) 0 3 - (0 + n))) 3)) := fun ty => by
    refine run_append_grow_zeros W 23 3 ty 3 i0 (.int .i64 0) .i64 .i64 undIs undIn hi0 hz0 none 0 0 [] (by simp [Builtin.firstCells]) n h0 (by omega) (by omega) (by omega) (by rw [hz2]; omega) ?_
    have : Builtin.nextslicecap (0 + n) 0 = n := by
      unfold Builtin.nextslicecap
      simp; omega
    rw [this, hz2]; omega
  have hge := grownCap_ge W (0 + n) 0 3
  have hle := grownCap_le_maxLen W (0 + n) 0 3 (by unfold maxLen; omega)
  obtain ⟨cp, hcp⟩ : ∃ cp, grownCap W (0 + n) 0 3 = cp := ⟨_, rfl⟩
  rw [hcp] at hap hge hle
  have hz : ∀ k, (Builtin.zeroCells (Value.int .i64 0).cells k).size = k := fun k => by simp [Builtin.zeroCells, Value.cells]
  obtain ⟨Z, hZ⟩ : ∃ Z, (([] : List Value).toArray ++ Builtin.zeroCells (Value.int .i64 0).cells n ++ Builtin.zeroCells (Value.int .i64 0).cells (cp - (0 + n))) = Z := ⟨_, rfl⟩
  have hZs : Z.size = cp := by rw [← hZ]; simp only [Array.size_append, hz]; simp; omega
  rw [hZ] at hap
  have HQ : Hid ((W.drew.alloc (.cells Z 3)).ownsRow W.heap.size 3 1 (.slice (some ⟨W.heap.size, 0, none⟩) 0 cp) 0 [] ∧ Bl W (W.drew.alloc (.cells Z 3))) := ⟨World.ownsRow_made W.drew Z cp (Nat.le_refl _) hle (by omega), (Bl.refl W).drew.alloc _⟩
  have hap2 : ∀ ty, (Builtin.append_ #[23, 3] ty #[.slice none 0 0, .int .i64 n]).run Try.prog W = .ok (.slice (some ⟨W.heap.size, 0, none⟩) n cp) (W.drew.alloc (.cells Z 3)) := fun ty => by have := hap ty; rwa [Nat.zero_add] at this
  have hnc : n ≤ cp := by omega
  have HAP := hidI hap2
  clear hap hcp hZ hZs hz hap2
  go_enter Try.func68, Try.ntmps68
  go_wp2_with (refine wl_appRun rfl _ _ 23 3 rfl (.slice none 0 0) (.int .i64 n) (.slice (some ⟨W.heap.size, 0, none⟩) n cp) rfl rfl HAP.out ?_)
  go_ret
  exact ⟨cp, rfl, HQ.out⟩
/-- two slices joined: those that lie in a row of two -/
structure CC (W : World) (b : Nat) (a1 : Option Addr) (c1 : Nat) (l1 : List Int) (a2 : Option Addr) (c2 : Nat) (l2 : List Int) : Prop where
  k0 : W.cell? ⟨b, 0, none⟩ = some (.slice a1 l1.length c1)
  k1 : W.cell? ⟨b, 1, none⟩ = some (.slice a2 l2.length c2)
  hb : b < W.heap.size
  r1 : RS lyI W a1 l1
  r2 : RS lyI W a2 l2
theorem CC.bl {W W' : World} {b : Nat} {a1 a2 : Option Addr} {c1 c2 : Nat} {l1 l2 : List Int} (h : CC W b a1 c1 l1 a2 c2 l2) (hb : Bl W W') : CC W' b a1 c1 l1 a2 c2 l2 := ⟨by rw [Bl.cell hb h.hb]; exact h.k0, by rw [Bl.cell hb h.hb]; exact h.k1, Nat.lt_of_lt_of_le h.hb (Below.size hb), h.r1.bl hb, h.r2.bl hb⟩
set_option maxRecDepth 8000 in
set_option maxHeartbeats 4000000 in
theorem Concat_x {W : World} {b : Nat} {a1 a2 : Option Addr} {c1 c2 : Nat} {l1 l2 : List Int} (h : CC W b a1 c1 l1 a2 c2 l2) (h1 : l1.length ≤ 40) (h2 : l2.length ≤ 40) :
    Calls Try.prog 54 #[.slice (some ⟨b, 0, none⟩) 2 2] W fun e w' => ∃ v, e = .returned v ∧ w'.ownsRow W.heap.size 3 1 v (l1 ++ l2).length (flG lyI (l1 ++ l2)) ∧ Bl W w' := by
  have H := hidI h
  have CG : Hid (Calls Try.prog 68 #[.slice none 0 0, .int .i64 ((l1.length + l2.length : Nat) : Int)] W fun e w' => ∃ a c, e = .returned (.slice a 0 c) ∧ w'.ownsRow W.heap.size 3 1 (.slice a 0 c) 0 [] ∧ Bl W w') := by
    show Calls _ _ _ _ _
    rcases Nat.eq_zero_or_pos (l1.length + l2.length) with h0 | h0
    · rw [h0]
      refine (Grow_0 W).mono ?_
      rintro e w' ⟨rfl, rfl⟩
      exact ⟨none, 0, rfl, ⟨rfl, Or.inl ⟨rfl, rfl⟩⟩, Bl.refl _⟩
    · refine (Grow_n _ h0 (by omega) W).mono ?_
      rintro e w' ⟨c, rfl, g1, g2⟩
      exact ⟨_, c, rfl, g1, g2⟩
  clear h
  go_enter Try.func54, Try.ntmps54
  go_wp2_with fail
  go_loop [3, 5, 11] (fun u3 _ u11 => (u3 = .int .i64 0 ∧ u11 = .int .i64 0) ∨ (u3 = .int .i64 (l1.length : Int) ∧ u11 = .int .i64 1) ∨ (u3 = .int .i64 ((l1.length + l2.length : Nat) : Int) ∧ u11 = .int .i64 2)) (fun _ _ u11 => 2 - (intOf u11).toNat)
  case atStart => exact Or.inl ⟨rfl, rfl⟩
  case round =>
    have k0 := H.out.k0
    have k1 := H.out.k1
    rcases hrel with ⟨rfl, rfl⟩ | ⟨rfl, rfl⟩ | ⟨rfl, rfl⟩
    · go_wp2_with fail
      go_round
      case rel => exact Or.inr (Or.inl ⟨by go_num, by go_num⟩)
      case measure => simp [intOf]
    · go_wp2_with fail
      go_round
      case rel => exact Or.inr (Or.inr ⟨by go_num, by go_num⟩)
      case measure => simp [intOf]
    · clear k0 k1
      go_wp2_with (go_at_call 68; refine (CG.out).mono ?_; clear CG; rintro e w1 ⟨a, c, rfl, g1, g2⟩; have G1 := hidI g1; have H1 := hidI (H.out.bl g2); have G2 := hidI g2; clear g1 g2)
      go_loopw [6, 8, 27] (fun u6 _ u27 wr => Bl W wr ∧ ((u27 = .int .i64 0 ∧ wr.ownsRow W.heap.size 3 1 u6 ([] : List Int).length (flG lyI [])) ∨ (u27 = .int .i64 1 ∧ wr.ownsRow W.heap.size 3 1 u6 l1.length (flG lyI l1)) ∨ (u27 = .int .i64 2 ∧ wr.ownsRow W.heap.size 3 1 u6 (l1 ++ l2).length (flG lyI (l1 ++ l2))))) (fun _ _ u27 _ => 2 - (intOf u27).toNat)
      case atStart => exact ⟨G2.out, Or.inl ⟨rfl, G1.out⟩⟩
      case round =>
        obtain ⟨hbl, hr⟩ := hrel
        have hcc := H.out.bl hbl
        have HBL := hidI hbl
        have HCC := hidI hcc
        have k0 := hcc.k0
        have k1 := hcc.k1
        have hsz : W.heap.size ≤ wr.heap.size := Below.size hbl
        have HGB : Hid (∀ w', (∀ g, u6.ownBlock = some g → W.heap.size ≤ g) → wr.grownBy w' u6.ownBlock → Bl W w') := fun w' hge hg => ⟨hg.os.trans hbl.os, hg.tape.trans hbl.tape, hg.output.trans hbl.output, Nat.le_trans hbl.size hg.size, fun k hk => (hg.block k (Nat.lt_of_lt_of_le hk hbl.size) (fun e => by have := hge k e.symm; omega)).trans (hbl.block k hk)⟩
        clear hbl hcc H1 G1 G2
        rcases hr with ⟨rfl, ho⟩ | ⟨rfl, ho⟩ | ⟨rfl, ho⟩
        · have HO := hidI ho
          have HGE : Hid (∀ g, u6.ownBlock = some g → W.heap.size ≤ g) := fun g e => (owns_ge ho e).1
          clear ho
          go_wp2_with (refine wl_appG lyI 3 23 (.int .i64 0) 8 undIs infoIn3 rfl (by decide) rfl _ _ rfl W.heap.size [] u6 rfl hsz HO.out a1 l1 l1.length c1 rfl rfl HCC.out.r1 (by simp; omega) ?_; intro v' w' q1 q2; have Q1 := hidI q1; have Q2 := hidI q2; clear q1 q2)
          go_roundw
          case rel => exact ⟨HGB.out _ HGE.out Q2.out, Or.inr (Or.inl ⟨by go_num, Q1.out⟩)⟩
          case measure => simp [intOf]
        · have HO := hidI ho
          have HGE : Hid (∀ g, u6.ownBlock = some g → W.heap.size ≤ g) := fun g e => (owns_ge ho e).1
          clear ho
          go_wp2_with (refine wl_appG lyI 3 23 (.int .i64 0) 8 undIs infoIn3 rfl (by decide) rfl _ _ rfl W.heap.size l1 u6 rfl hsz HO.out a2 l2 l2.length c2 rfl rfl HCC.out.r2 (by omega) ?_; intro v' w' q1 q2; have Q1 := hidI q1; have Q2 := hidI q2; clear q1 q2)
          go_roundw
          case rel => exact ⟨HGB.out _ HGE.out Q2.out, Or.inr (Or.inr ⟨by go_num, Q1.out⟩)⟩
          case measure => simp [intOf]
        · obtain ⟨a3, c3, rfl, _⟩ := owns_rs lyI ho
          have HO := hidI ho
          clear ho HGB
          go_wp2_with fail
          go_ret
          exact ⟨_, rfl, HO.out, HBL.out⟩
end Go.Proofs.Ytebmgajijjhinaa
