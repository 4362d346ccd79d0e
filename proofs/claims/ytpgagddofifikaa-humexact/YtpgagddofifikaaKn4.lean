/- What All, Present, Same, Ints answer. -/
import Derived.Test.YtpgagddofifikaaKn3
import Derived.Laws.StructEq
namespace Go.Proofs.Ytpgagddofifikaa
open Go.RowKit Go.Maps
set_option linter.unusedVariables false
set_option linter.unusedSimpArgs false

/-- one more is appended to a row of one's own; the new block's number by a name of its own -/
theorem wl_app1M {α : Type} (E : Lay α) {ops : Array Oper} {rest : List Oper} {o : Oper} {a : Act} {w W U : World} {Q : Exit → Act → World → Prop} (T TS : TypeId) (z : Value) (bytes : Nat)
    (hund : Try.prog.underlying TS = some (.slice T)) (hinfo : (Try.prog.info? T).map (fun i => (i.zero, i.size, i.bytes)) = some (some z, E.k, bytes)) (hzc : z.cells.size = E.k) (hby : bytes ≤ 4096)
    (hgd : o.guard = none) (s x : Operand) (ho : o.op = .call { callee := .builtin .append, args := #[s, x], argTypes := #[TS, TS] }) (n : Nat) (ks : List α) (hnk : n = ks.length) (t : α) (v : Value) (hs : a.eval s = v) (hb : Bl w W) (hown : W.ownsRow w.heap.size T E.k v n (flG E ks))
    (N : Nat) (hN : N = W.heap.size) (hx : a.eval x = .slice (some ⟨N, 0, none⟩) 1 1) (hn : n ≤ 90000)
    (h : ∀ a' c' w', w'.ownsRow w.heap.size T E.k (.slice a' (n + 1) c') (n + 1) (flG E (ks ++ [t])) → Bl w w' → W.grownBy w' v.ownBlock → wpList Try.prog ops Q rest (a.put o.dst (.slice a' (n + 1) c')) w') (C : Array Value) (hC : C = (E.f t).toArray) (hU : U = W.alloc (.cells C T)) : wpList Try.prog ops Q (o :: rest) a U := by
  subst hN
  exact wl_app1G E T TS z bytes hund hinfo hzc hby hgd s x ho n ks hnk t v hs hb hown hx hn h C hC hU
theorem part_one {t : TypeId} (ha : ∀ W, (isAgg t).run Try.prog W = .ok false W) (C : Array Value) (o : Nat) (v : Value) (h : C[o]? = some v) (W : World) : (part t C o).run Try.prog W = .ok v W := by
  unfold part
  simp only [Sem.run_bind, ha, Result.andThen_ok, Bool.false_eq_true, if_false, h, Sem.run_pure]
theorem eqMe (a b : K.Me) (W : World) : (Op.equalIn 10000 41 (.agg #[.int .i64 a.1, .int .i64 a.2.1, .int .i64 a.2.2]) (.agg #[.int .i64 b.1, .int .i64 b.2.1, .int .i64 b.2.2])).run Try.prog W = .ok (decide (a = b)) W := by
  have hS : Try.prog.underlying 41 = some (.struct (Try.prog.fieldsOf 41)) := by kernel_rfl
  have hp : Try.prog.stoodInHeld 41 = false := by kernel_rfl
  rw [show (10000 : Nat) = 9998 + 1 + 1 from rfl, run_equalIn_struct W (9998 + 1) 41 _ _ hS hp]
  simp only [Program.fieldsOf, Try.underlying41, Op.eqFields]
  obtain ⟨n, i, s⟩ := a
  obtain ⟨n2, i2, s2⟩ := b
  have p0 := fun (x y z : Int) W => part_one (t := 3) Try.isAgg3 #[.int .i64 x, .int .i64 y, .int .i64 z] 0 (.int .i64 x) rfl W
  have p1 := fun (x y z : Int) W => part_one (t := 3) Try.isAgg3 #[.int .i64 x, .int .i64 y, .int .i64 z] 1 (.int .i64 y) rfl W
  have p2 := fun (x y z : Int) W => part_one (t := 3) Try.isAgg3 #[.int .i64 x, .int .i64 y, .int .i64 z] 2 (.int .i64 z) rfl W
  have h1 : ∀ x y W, (Op.equalIn (9998 + 1) 3 (.int .i64 x) (.int .i64 y)).run Try.prog W = .ok (x == y) W := fun x y W => run_equalIn_int W 9998 3 .i64 .i64 x y Try.underlying3
  by_cases e1 : n = n2
  · subst e1
    by_cases e2 : i = i2
    · subst e2
      by_cases e3 : s = s2
      · subst e3; simp [p0, p1, p2, h1]
      · simp [p0, p1, p2, h1, e3]
    · simp [p0, p1, p2, h1, e2]
  · simp [p0, p1, p2, h1, e1]
set_option maxRecDepth 8000 in
set_option maxHeartbeats 1000000 in
theorem Same_x (l1 l2 : List K.Me) (a1 a2 : Option Addr) (c1 c2 : Nat) (w : World) (h1 : RS lyM w a1 l1) (h2 : RS lyM w a2 l2) (hn1 : l1.length ≤ maxLen) (hn2 : l2.length ≤ maxLen) :
    Calls Try.prog 11 #[.slice a1 l1.length c1, .slice a2 l2.length c2] w fun e w' => e = .returned (.bool (decide (l1 = l2))) ∧ ∃ n, w' = w.drewN n := by
  have H1 : Hid (RS lyM w a1 l1) := h1
  have H2 : Hid (RS lyM w a2 l2) := h2
  clear h1 h2
  unfold maxLen at hn1 hn2
  by_cases hln : l1.length = l2.length
  · have hq : ((l1.length : Int) != (l2.length : Int)) = false := by simp [hln]
    have HLN : Hid (l1.length = l2.length) := hln
    clear hln
    go_enter Try.func11, Try.ntmps11
    go_wp2_with fail
    go_loopw [5] (fun u5 wr => ∃ k : Nat, k ≤ l1.length ∧ u5 = .int .i64 k ∧ (∀ i, i < k → l1[i]? = l2[i]?) ∧ ∃ n, wr = w.drewN n) (fun u5 _ => l1.length - (intOf u5).toNat)
    case atStart => exact ⟨0, Nat.zero_le _, rfl, fun i hi => by omega, 0, rfl⟩
    case round =>
      obtain ⟨k, hk, rfl, hsame, n, rfl⟩ := hrel
      have HS : Hid (∀ i, i < k → l1[i]? = l2[i]?) := hsame
      clear hsame
      by_cases hlt : k < l1.length
      · obtain ⟨t1, ht1⟩ : ∃ t, l1[k]? = some t := ⟨l1[k], List.getElem?_eq_getElem hlt⟩
        have hlt2 : k < l2.length := by rw [← HLN.out]; exact hlt
        obtain ⟨t2, ht2⟩ : ∃ t, l2[k]? = some t := ⟨l2[k], List.getElem?_eq_getElem hlt2⟩
        obtain ⟨b1, o1, rfl, _, g1'⟩ := H1.out k t1 ht1
        obtain ⟨b2, o2, rfl, _, g2'⟩ := H2.out k t2 ht2
        have heq : ∀ W, (Op.equalIn 10000 41 (.agg #[.int .i64 t1.1, .int .i64 t1.2.1, .int .i64 t1.2.2]) (.agg #[.int .i64 t2.1, .int .i64 t2.2.1, .int .i64 t2.2.2])).run Try.prog W = .ok (decide (t1 = t2)) W := fun W => eqMe t1 t2 W
        obtain ⟨n1, i1, s1⟩ := t1
        obtain ⟨n2, i2, s2⟩ := t2
        have R1 : w.rangeAt b1 (o1 + k * 3) [.int .i64 n1, .int .i64 i1, .int .i64 s1] := g1'
        have R2 : w.rangeAt b2 (o2 + k * 3) [.int .i64 n2, .int .i64 i2, .int .i64 s2] := g2'
        have k0 := R1 0 _ rfl
        have k1 := R1 1 _ rfl
        have k2 := R1 2 _ rfl
        have l0 := R2 0 _ rfl
        have l1' := R2 1 _ rfl
        have l2' := R2 2 _ rfl
        simp only [Nat.add_zero] at k0 l0
        clear g1' g2'
        have HT1 : Hid (l1[k]? = some (n1, i1, s1)) := ht1
        have HT2 : Hid (l2[k]? = some (n2, i2, s2)) := ht2
        clear ht1 ht2
        simp only at heq
        obtain ⟨fs, hum⟩ := undMe
        by_cases hq2 : (n1, i1, s1) = (n2, i2, s2)
        · have hbq : decide ((n1, i1, s1) = (n2, i2, s2)) = true := decide_eq_true hq2
          have HQ : Hid ((n1, i1, s1) = (n2, i2, s2)) := hq2
          rw [hbq] at heq
          clear hq2 hbq
          go_wp2_with fail
          go_quiet (fail)
          go_wp2_with fail
          go_roundw
          case rel =>
            refine ⟨k + 1, by omega, by go_num, ?_, _, rfl⟩
            intro i hi
            by_cases hik : i = k
            · subst hik; rw [HT1.out, HT2.out, HQ.out]
            · exact HS.out i (by omega)
          case measure => simp [intOf]; omega
        · have hbq : decide ((n1, i1, s1) = (n2, i2, s2)) = false := decide_eq_false hq2
          have HQ : Hid (¬ (n1, i1, s1) = (n2, i2, s2)) := hq2
          rw [hbq] at heq
          clear hq2 hbq
          go_wp2_with fail
          go_quiet (fail)
          go_wp2_with fail
          go_ret
          refine ⟨?_, _, World.drewN_drewN ..⟩
          have hne : l1 ≠ l2 := by
            intro e
            apply HQ.out
            have h := HT1.out
            rw [e, HT2.out] at h
            exact (Option.some.inj h).symm
          rw [decide_eq_false hne]
          rfl
      · obtain rfl : k = l1.length := by omega
        go_wp2_with fail
        go_ret
        refine ⟨?_, n, rfl⟩
        have he : l1 = l2 := by
          apply List.ext_getElem?
          intro i
          by_cases hi : i < l1.length
          · exact HS.out i hi
          · rw [List.getElem?_eq_none (by omega), List.getElem?_eq_none (by rw [← HLN.out]; omega)]
        rw [decide_eq_true he]
        rfl
  · have hq : ((l1.length : Int) != (l2.length : Int)) = true := by rw [bne_iff_ne]; omega
    have hne : l1 ≠ l2 := fun e => hln (by rw [e])
    rw [decide_eq_false hne]
    clear hln hne
    go_enter Try.func11, Try.ntmps11
    go_wp2_with fail
    go_ret
    exact ⟨rfl, 0, rfl⟩
end Go.Proofs.Ytpgagddofifikaa
