/- What All, Present, Same, Ints answer. -/
import Derived.Test.YtebmgajijjhinaaKn3
import Derived.Laws.StructEq
namespace Go.Proofs.Ytebmgajijjhinaa
open Go.RowKit Go.Maps
set_option linter.unusedVariables false
set_option linter.unusedSimpArgs false

/-- what Get answers of a view, wherever it lies -/
def GetC (w : World) (v : Value) (f : K.Vw) : Prop := ∀ (k : Int) (W : World), i64 k → Bl w W → Calls Try.prog 37 #[v, .int .i64 k] W fun e w' => e = .returned (.tuple #[.agg (meV (gv f k)), .bool (f k).isSome]) ∧ Bl W w'
theorem getC_nil (w : World) : GetC w (.pointer none) K.e0 := fun k W _ hb => Get_nil k W
theorem VT.getC {w W : World} {q b : Nat} {f : K.Vw} {N : Nat} (x : VT w q b f N W) : GetC W (.pointer (some ⟨q, 0, none⟩)) f := fun k W' hk hb => Get_x (x.grow hb) k hk
theorem GetC.up {w w' : World} {v : Value} {f : K.Vw} (h : GetC w v f) (hb : Bl w w') : GetC w' v f := fun k W hk hW => h k W hk (hb.step hW)
/-- one more is appended to a row of one's own; the new block's number by a name of its own -/
theorem wl_app1M {α : Type} (E : Lay α) {ops : Array Oper} {rest : List Oper} {o : Oper} {a : Act} {w W U : World} {Q : Exit → Act → World → Prop} (T TS : TypeId) (z : Value) (bytes : Nat)
    (hund : Try.prog.underlying TS = some (.slice T)) (hinfo : (Try.prog.info? T).map (fun i => (i.zero, i.size, i.bytes)) = some (some z, E.k, bytes)) (hzc : z.cells.size = E.k) (hby : bytes ≤ 4096)
    (hgd : o.guard = none) (s x : Operand) (ho : o.op = .call { callee := .builtin .append, args := #[s, x], argTypes := #[TS, TS] }) (n : Nat) (ks : List α) (hnk : n = ks.length) (t : α) (v : Value) (hs : a.eval s = v) (hb : Bl w W) (hown : W.ownsRow w.heap.size T E.k v n (flG E ks))
    (N : Nat) (hN : N = W.heap.size) (hx : a.eval x = .slice (some ⟨N, 0, none⟩) 1 1) (hn : n ≤ 90000)
    (h : ∀ a' c' w', w'.ownsRow w.heap.size T E.k (.slice a' (n + 1) c') (n + 1) (flG E (ks ++ [t])) → Bl w w' → W.grownBy w' v.ownBlock → wpList Try.prog ops Q rest (a.put o.dst (.slice a' (n + 1) c')) w') (C : Array Value) (hC : C = (E.f t).toArray) (hU : U = W.alloc (.cells C T)) : wpList Try.prog ops Q (o :: rest) a U := by
  subst hN
  exact wl_app1G E T TS z bytes hund hinfo hzc hby hgd s x ho n ks hnk t v hs hb hown hx hn h C hC hU
set_option maxRecDepth 8000 in
set_option maxHeartbeats 4000000 in
theorem All_g {W : World} {v : Value} {f : K.Vw} (C : GetC W v f) :
    Calls Try.prog 27 #[v] W fun e w' => ∃ a c, e = .returned (.slice a (K.all f).length c) ∧ RS lyM w' a (K.all f) ∧ Bl W w' := by
  have CG : Hid (GetC W v f) := C
  clear C
  go_enter Try.func27, Try.ntmps27
  go_wp2_with fail
  go_loopw [3, 4] (fun u3 u4 wr => ∃ k : Nat, k ≤ 6 ∧ u4 = .int .i64 ((k : Int) + 1) ∧ Bl W wr ∧ wr.ownsRow W.heap.size 54 3 u3 (K.allN f k).length (flG lyM (K.allN f k))) (fun _ u4 _ => 7 - (intOf u4).toNat)
  case atStart => exact ⟨0, by omega, rfl, Bl.refl _, ⟨rfl, Or.inl ⟨rfl, rfl⟩⟩⟩
  case round =>
    obtain ⟨k, hk, rfl, HB, ho⟩ := hrel
    by_cases hlt : k < 6
    · have HS : Hid (K.allN f (k + 1) = K.allN f k ++ (f ((k : Int) + 1)).toList) := K.allN_succ f k
      have hal := K.allN_len f k
      have C1 : Hid (Calls Try.prog 37 #[v, .int .i64 ((k : Int) + 1)] wr fun e w' => e = .returned (.tuple #[.agg (meV (gv f ((k : Int) + 1))), .bool (f ((k : Int) + 1)).isSome]) ∧ Bl wr w') := (CG.out.up HB) _ wr (by constructor <;> omega) (Bl.refl _)
      have HO : Hid (wr.ownsRow W.heap.size 54 3 u3 (K.allN f k).length (flG lyM (K.allN f k))) := ho
      obtain ⟨L, hL⟩ : ∃ L, K.allN f k = L := ⟨_, rfl⟩
      rw [hL] at HS HO hal
      clear ho CG hL
      cases hfk : f ((k : Int) + 1) with
      | none =>
        have e0 : gv f ((k : Int) + 1) = (0, 0, 0) := by unfold gv; rw [hfk]; rfl
        rw [hfk] at C1 HS
        rw [e0] at C1
        clear hfk e0
        unfold meV at C1
        simp only [Option.isSome_none] at C1
        go_wp2_with (first
          | (go_at_call 37; refine (C1.out).mono ?_; clear C1; rintro e w' ⟨rfl, HB1⟩))
        go_roundw
        case rel => exact ⟨k + 1, by omega, by go_num, (HB.step HB1).alloc _, by rw [HS.out]; simpa using ownsRow_bl (ownsRow_bl HO.out HB1) ((Bl.refl _).alloc _)⟩
        case measure => simp [intOf]; omega
      | some m =>
        have e0 : gv f ((k : Int) + 1) = m := by unfold gv; rw [hfk]; rfl
        rw [hfk] at C1 HS
        rw [e0] at C1
        clear hfk e0
        obtain ⟨n, i, s⟩ := m
        unfold meV at C1
        simp only [Option.isSome_some] at C1
        go_wp2_with (first
          | (go_at_call 37; refine (C1.out).mono ?_; clear C1; rintro e w' ⟨rfl, HB1⟩; have HB2 : Hid (Bl W (w'.alloc (.cells #[.int .i64 n, .int .i64 i, .int .i64 s] 54))) := (HB.step HB1).alloc _; have HO2 : Hid ((w'.alloc (.cells #[.int .i64 n, .int .i64 i, .int .i64 s] 54)).ownsRow W.heap.size 54 3 u3 L.length (flG lyM L)) := ownsRow_bl (ownsRow_bl HO.out HB1) ((Bl.refl _).alloc _))
          | (refine wl_app1M lyM 54 46 (.agg #[.int .i64 0, .int .i64 0, .int .i64 0]) 24 undMs infoMe3 rfl (by decide) rfl _ _ rfl L.length L rfl (n, i, s) u3 rfl HB2.out HO2.out (w'.heap.size + 1) (by simp) rfl (by omega) ?_ _ rfl rfl; intro a' c' w2 g1 g2 g3))
        have z1 : w2.ownsRow W.heap.size 54 3 (.slice a' (L.length + 1) c') (K.allN f (k + 1)).length (flG lyM (K.allN f (k + 1))) := by
          have e : K.allN f (k + 1) = L ++ [(n, i, s)] := HS.out
          rw [e, List.length_append]; exact g1
        go_roundw
        case rel => exact ⟨k + 1, by omega, by go_num, g2, z1⟩
        case measure => simp [intOf]; omega
    · obtain rfl : k = 6 := by omega
      obtain ⟨a', c', rfl, h4⟩ := owns_rs lyM ho
      have HQ : Hid (RS lyM wr a' (K.all f) ∧ Bl W wr) := ⟨h4, HB⟩
      clear ho h4 CG HB
      go_wp2_with fail
      go_ret
      exact ⟨a', c', rfl, HQ.out⟩
theorem part_one {t : TypeId} (ha : ∀ W, (isAgg t).run Try.prog W = .ok false W) (C : Array Value) (o : Nat) (v : Value) (h : C[o]? = some v) (W : World) : (part t C o).run Try.prog W = .ok v W := by
  unfold part
  simp only [Sem.run_bind, ha, Result.andThen_ok, Bool.false_eq_true, if_false, h, Sem.run_pure]
theorem eqMe (a b : K.Me) (W : World) : (Op.equalIn 10000 54 (.agg #[.int .i64 a.1, .int .i64 a.2.1, .int .i64 a.2.2]) (.agg #[.int .i64 b.1, .int .i64 b.2.1, .int .i64 b.2.2])).run Try.prog W = .ok (decide (a = b)) W := by
  have hS : Try.prog.underlying 54 = some (.struct (Try.prog.fieldsOf 54)) := by kernel_rfl
  have hp : Try.prog.stoodInHeld 54 = false := by kernel_rfl
  rw [show (10000 : Nat) = 9998 + 1 + 1 from rfl, run_equalIn_struct W (9998 + 1) 54 _ _ hS hp]
  simp only [Program.fieldsOf, Try.underlying54, Op.eqFields]
  obtain ⟨n, i, s⟩ := a
  obtain ⟨n2, i2, s2⟩ := b
  have p0 := fun (x y z : Int) W => part_one (t := 3) Try.isAgg3 #[.int .i64 x, .int .i64 y, .int .i64 z] 0 (.int .i64 x) rfl W
  have p1 := fun (x y z : Int) W => part_one (t := 3) Try.isAgg3 #[.int .i64 x, .int .i64 y, .int .i64 z] 1 (.int .i64 y) rfl W
  have p2 := fun (x y z : Int) W => part_one (t := 3) Try.isAgg3 #[.int .i64 x, .int .i64 y, .int .i64 z] 2 (.int .i64 z) rfl W
  have h1 : ∀ x y W, (Op.equalIn (9998 + 1) 3 (.int .i64 x) (.int .i64 y)).run Try.prog W = .ok (x == y) W := fun x y W => run_equalIn_int W 9998 3 .i64 .i64 x y Try.underlying3
  by_cases e1 : n = n2
  · subst e1
    by_cases e2 : i = i2
    · subst e2
      by_cases e3 : s = s2
      · subst e3; simp [p0, p1, p2, h1]
      · simp [p0, p1, p2, h1, e3]
    · simp [p0, p1, p2, h1, e2]
  · simp [p0, p1, p2, h1, e1]
end Go.Proofs.Ytebmgajijjhinaa
