/- Me, hasLeft, isOther, nextSeq, isOpen, All, Present, others. -/
import Derived.Test.YtebmgajijjhinaaSoV
namespace Go.Proofs.Ytebmgajijjhinaa
open Go.RowKit Go.Maps
set_option linter.unusedVariables false
set_option linter.unusedSimpArgs false

theorem fz3 {w : World} {b : Nat} {C : Array Value} {t : TypeId} (h : w.heap[b]? = some (.cells C t (0, 0))) (o : Nat) : w.frozen? ⟨b, o, none⟩ = false := by simp [World.frozen?, h]
theorem set3 {w : World} {b : Nat} {x y z a1 a2 a3 : Value} {t : TypeId} (h : w.heap[b]? = some (.cells #[x, y, z] t (0, 0))) : ((((w.setCell ⟨b, 0, none⟩ a1).setCell ⟨b, 1, none⟩ a2).setCell ⟨b, 2, none⟩ a3)).heap[b]? = some (.cells #[a1, a2, a3] t (0, 0)) := by
  rw [heap_setCell_own (heap_setCell_own (heap_setCell_own h))]; rfl
theorem of1_set3 (w : World) (b : Nat) (a1 a2 a3 : Value) : Of1 b w (((w.setCell ⟨b, 0, none⟩ a1).setCell ⟨b, 1, none⟩ a2).setCell ⟨b, 2, none⟩ a3) :=
  ((Of1.of_grown (grown_setCell _ _ _ _)).trans (Of1.of_grown (grown_setCell _ _ _ _))).trans (Of1.of_grown (grown_setCell _ _ _ _))
theorem Me_nil (W : World) : Calls Try.prog 11 #[.pointer none] W fun e w' => e = .returned (.agg (meV (0, 0, 0))) ∧ Bl W w' := by
  have HA : Hid (∀ o, Bl W (W.alloc o)) := fun o => (Bl.refl W).alloc o
  obtain ⟨fs, hum⟩ := undMe
  go_enter Try.func11, Try.ntmps11
  go_wp2_with fail
  refine bodyPost_ret (results_cell_row rfl _ _ _ 54 #[.int .i64 0, .int .i64 0, .int .i64 0] (0, 0) _ rfl (heap_alloc_new W _) hum rfl infoMe) rfl ?_
  exact ⟨rfl, HA.out _⟩
set_option maxRecDepth 8000 in
set_option maxHeartbeats 1000000 in
theorem Me_x {w W : World} {p : Nat} {P : Pl} {B : Nat → Prop} {N : Nat} {s : SO.Sc} (x : S0 w p P B N s W) :
    Calls Try.prog 11 #[.pointer (some ⟨p, 0, none⟩)] W fun e w' => e = .returned (.agg (meV (SO.of s s.me))) ∧ Bl W w' := by
  have HB : Bl W (W.alloc (.cells #[.int .i64 0, .int .i64 0, .int .i64 0] 54)).drew := ((Bl.refl W).alloc _).drew
  have c10 := (x.grow HB).c10
  have hm : i64 s.me := ⟨by have := x.num.m1; omega, by have := x.num.m2; have := x.num.m3; omega⟩
  have C1 : Hid (Calls Try.prog 20 #[.pointer (some ⟨p, 0, none⟩), .int .i64 s.me] (W.alloc (.cells #[.int .i64 0, .int .i64 0, .int .i64 0] 54)).drew fun e w' => e = .returned (.agg (meV (SO.of s s.me))) ∧ Bl (W.alloc (.cells #[.int .i64 0, .int .i64 0, .int .i64 0] 54)).drew w') := of_x (x.grow HB) s.me hm
  generalize SO.of s s.me = m at *
  generalize s.me = me at *
  obtain ⟨n, i, st⟩ := m
  unfold meV at *
  simp only at *
  obtain ⟨fs, hum⟩ := undMe
  have HR : Hid (∀ w1, Bl (W.alloc (.cells #[.int .i64 0, .int .i64 0, .int .i64 0] 54)).drew w1 → w1.heap[W.heap.size]? = some (.cells #[.int .i64 0, .int .i64 0, .int .i64 0] 54 (0, 0)) ∧ Bl W w1) := fun w1 h => ⟨by rw [Below.block h _ (by simp)]; exact heap_alloc_new W _, HB.step h⟩
  clear x HB hm
  go_enter Try.func11, Try.ntmps11
  go_wp2_with fail
  go_region_with (go_at_call 20; refine (C1.out).mono ?_; clear C1; rintro e w1 ⟨rfl, hb⟩; obtain ⟨r0, hB1⟩ := HR.out _ hb; obtain ⟨k0, k1, k2⟩ := cells3 r0; have f0 := fz3 r0 0; have f1 := fz3 r0 1; have f2 := fz3 r0 2; have R0 := hidI r0; have HB1 := hidI hB1; clear r0 hB1 hb)
  go_wp2_with fail
  refine bodyPost_ret (results_cell_row rfl _ _ _ 54 #[.int .i64 n, .int .i64 i, .int .i64 st] (0, 0) _ rfl (set3 R0.out) hum rfl infoMe) rfl ?_
  exact ⟨rfl, (of1_set3 _ _ _ _ _).bl HB1.out (Nat.le_refl _)⟩
theorem hasLeft_x {w W : World} {p : Nat} {P : Pl} {B : Nat → Prop} {N : Nat} {s : SO.Sc} (x : S0 w p P B N s W) :
    Calls Try.prog 12 #[.pointer (some ⟨p, 0, none⟩)] W fun e w' => e = .returned (.bool (SO.left s)) ∧ Bl W w' := by
  have C1 : Hid (Calls Try.prog 11 #[.pointer (some ⟨p, 0, none⟩)] W fun e w' => e = .returned (.agg (meV (SO.of s s.me))) ∧ Bl W w') := Me_x x
  have HL : Hid (SO.left s = ((SO.of s s.me).2.2 == 3)) := rfl
  generalize SO.left s = z at *
  generalize SO.of s s.me = m at *
  obtain ⟨n, i, st⟩ := m
  unfold meV at *
  simp only at *
  have hfl : ∀ W, (Instr.field 54 (.agg #[.int .i64 n, .int .i64 i, .int .i64 st]) 2).run Try.prog W = .ok (.int .i64 st) W := fun W => by kernel_rfl
  clear x
  go_enter Try.func12, Try.ntmps12
  go_wp2_with (go_at_call 11; refine (C1.out).mono ?_; clear C1; rintro e w1 ⟨rfl, hb⟩)
  go_ret
  exact ⟨by rw [HL.out]; rfl, hb⟩
set_option maxRecDepth 8000 in
set_option maxHeartbeats 1000000 in
theorem isOther_x {w W : World} {p : Nat} {P : Pl} {B : Nat → Prop} {N : Nat} {s : SO.Sc} (x : S0 w p P B N s W) (k : Int) :
    Calls Try.prog 19 #[.pointer (some ⟨p, 0, none⟩), .int .i64 k] W fun e w' => e = .returned (.bool (SO.other s k)) ∧ w' = W := by
  have c10 := x.c10
  have c11 := x.c11
  have HL : Hid (SO.other s k = (decide (1 ≤ k) && decide (k ≤ s.n) && !(k == s.me))) := rfl
  generalize SO.other s k = z at *
  generalize s.me = me at *
  generalize s.n = n at *
  clear x
  by_cases h1 : 1 ≤ k
  · by_cases h2 : k ≤ n
    · obtain ⟨q, hq⟩ : ∃ q, (k == me) = q := ⟨_, rfl⟩
      have hq2 : (k != me) = !q := by rw [← hq]; rfl
      go_enter Try.func19, Try.ntmps19
      go_wp2_with fail
      go_ret
      exact ⟨by rw [HL.out, hq]; simp [h1, h2, hq2], rfl⟩
    · go_enter Try.func19, Try.ntmps19
      go_wp2_with fail
      go_ret
      exact ⟨by rw [HL.out, show decide (k ≤ n) = false from decide_eq_false (by omega)]; simp, rfl⟩
  · go_enter Try.func19, Try.ntmps19
    go_wp2_with fail
    go_ret
    exact ⟨by rw [HL.out, show decide (1 ≤ k) = false from decide_eq_false (by omega)]; simp, rfl⟩
theorem set_seq (P : Pl) (s : SO.Sc) (t : Int) : (P.cells s).setIfInBounds 13 (.int .i64 t) = P.cells { s with seq := t } := rfl
theorem Num.seq1 {s : SO.Sc} {N : Nat} (x : Num s N) : Num { s with seq := s.seq + 1 } (N + 1) :=
  let y := x.more (Nat.le_succ N)
  ⟨y.n1, y.n2, by have := x.q1; show 0 ≤ s.seq + 1; omega, by have := x.q2; show s.seq + 1 ≤ _; push_cast; omega, y.s1, y.s2, y.m1, y.m2, y.m3, y.p1, y.p2, y.ok, y.el, y.ll, y.l1, y.hh⟩
theorem nextSeq_x {w W : World} {p : Nat} {P : Pl} {B : Nat → Prop} {N : Nat} {s : SO.Sc} (x : S0 w p P B N s W) (hN : N ≤ 100000000000) :
    Calls Try.prog 32 #[.pointer (some ⟨p, 0, none⟩)] W fun e w' => e = .returned (.int .i64 (s.seq + 1)) ∧ S0 w p P B (N + 1) { s with seq := s.seq + 1 } w' ∧ OS B B W w' := by
  have c13 := x.c13
  have f13 := x.fz 13
  have q1 := x.num.q1
  have q2 := x.num.q2
  have HX := hidI (x.set (Nat.le_succ N) 13 (.int .i64 (s.seq + 1)) (set_seq P s _) rfl rfl x.num.seq1 rfl rfl rfl)
  clear x
  generalize hsq : s.seq = sq at *
  go_enter Try.func32, Try.ntmps32
  go_wp2_with fail
  go_ret
  exact ⟨rfl, HX.out⟩
set_option maxRecDepth 8000 in
theorem isOpen_x {w W : World} {p : Nat} {P : Pl} {B : Nat → Prop} {N : Nat} {s : SO.Sc} (x : S0 w p P B N s W) :
    Calls Try.prog 34 #[.pointer (some ⟨p, 14, none⟩)] W fun e w' => e = .returned (.bool (SO.isOpen s)) ∧ w' = W := by
  have c14 := x.c14
  have c17 := x.c17
  have HL : Hid (SO.isOpen s = (!(s.pn == 0) && !s.pa)) := rfl
  generalize SO.isOpen s = z at *
  generalize s.pn = pn at *
  generalize s.pa = pa at *
  clear x
  by_cases h1 : pn = 0
  · subst h1
    go_enter Try.func34, Try.ntmps34
    go_wp2_with fail
    go_ret
    exact ⟨by rw [HL.out]; simp, rfl⟩
  · have h2 : (pn != 0) = true := by simp [h1]
    have h3 : (pn == 0) = false := by simp [h1]
    go_enter Try.func34, Try.ntmps34
    go_wp2_with fail
    go_ret
    exact ⟨by rw [HL.out]; simp [h3], rfl⟩
theorem All_x {w W : World} {p : Nat} {P : Pl} {B : Nat → Prop} {N : Nat} {s : SO.Sc} (x : S0 w p P B N s W) :
    Calls Try.prog 8 #[.pointer (some ⟨p, 0, none⟩)] W fun e w' => ∃ a c, e = .returned (.slice a (K.all s.f).length c) ∧ RS lyM w' a (K.all s.f) ∧ Bl W w' := by
  have c0 := x.c0
  have C1 : Hid (Calls Try.prog 27 #[.pointer (some ⟨P.q, 0, none⟩)] W fun e w' => ∃ a c, e = .returned (.slice a (K.all s.f).length c) ∧ RS lyM w' a (K.all s.f) ∧ Bl W w') := All_g x.vt.getC
  generalize P.q = q at *
  generalize K.all s.f = l at *
  clear x
  go_enter Try.func8, Try.ntmps8
  go_wp2_with (go_at_call 27; refine (C1.out).mono ?_; clear C1; rintro e w1 ⟨a, c, rfl, hb⟩)
  go_ret
  exact ⟨a, c, rfl, hb⟩
theorem Present_x {w W : World} {p : Nat} {P : Pl} {B : Nat → Prop} {N : Nat} {s : SO.Sc} (x : S0 w p P B N s W) :
    Calls Try.prog 9 #[.pointer (some ⟨p, 0, none⟩)] W fun e w' => ∃ v, e = .returned v ∧ w'.ownsRow W.heap.size 3 1 v (K.pres s.f).length (flG lyI (K.pres s.f)) ∧ Bl W w' := by
  have c0 := x.c0
  have C1 : Hid (Calls Try.prog 28 #[.pointer (some ⟨P.q, 0, none⟩)] W fun e w' => ∃ v, e = .returned v ∧ w'.ownsRow W.heap.size 3 1 v (K.pres s.f).length (flG lyI (K.pres s.f)) ∧ Bl W w') := Present_o x.vt.getC
  generalize P.q = q at *
  generalize K.pres s.f = l at *
  clear x
  go_enter Try.func9, Try.ntmps9
  go_wp2_with (go_at_call 28; refine (C1.out).mono ?_; clear C1; rintro e w1 ⟨v, rfl, h1, h2⟩; obtain ⟨a, c, rfl, _⟩ := owns_rs lyI h1; have H1 := hidI h1; clear h1)
  go_ret
  exact ⟨_, rfl, H1.out, h2⟩
theorem pres_len (f : K.Vw) : (K.pres f).length ≤ 6 := by
  have h3 := K.preL_len (K.all f) (K.all f).length
  rw [K.preL_all] at h3
  have := K.allN_len f 6
  unfold K.all at h3
  omega
theorem others1_x (me k : Int) (BX p : Nat) (W : World) (hc : W.cell? ⟨BX, 0, none⟩ = some (.pointer (some ⟨p, 0, none⟩))) (hm : W.cell? ⟨p, 10, none⟩ = some (.int .i64 me)) : Calls Try.prog 66 (#[.int .i64 k] ++ #[.pointer (some ⟨BX, 0, none⟩)]) W fun e w' => e = .returned (.bool (k == me)) ∧ Bl W w' := by
  show Calls Try.prog 66 #[.int .i64 k, .pointer (some ⟨BX, 0, none⟩)] W _
  obtain ⟨z, hz⟩ : ∃ z, (k == me) = z := ⟨_, rfl⟩
  rw [hz]
  go_enter Try.func66, Try.ntmps66
  go_wp2_with fail
  go_ret
  exact ⟨rfl, Bl.refl _⟩
set_option maxRecDepth 8000 in
set_option maxHeartbeats 1000000 in
theorem others_x {w W : World} {p : Nat} {P : Pl} {B : Nat → Prop} {N : Nat} {s : SO.Sc} (x : S0 w p P B N s W) :
    Calls Try.prog 51 #[.pointer (some ⟨p, 0, none⟩)] W fun e w' => ∃ v, e = .returned v ∧ w'.ownsRow W.heap.size 3 1 v (SO.oth s).length (flG lyI (SO.oth s)) ∧ Bl W w' := by
  have HB0 : Bl W (W.alloc (.cells #[.pointer (some ⟨p, 0, none⟩)] 32)) := (Bl.refl W).alloc _
  have x1 := x.grow HB0
  have eg : ∀ args w, (callFunc 66 args).run Try.prog w = .ok (.enter 66 args) w := enters_of Try.func66 (by kernel_rfl) rfl
  have hpW : p < W.heap.size := (x.Bo p x.Bp).2
  have C1 : Hid (Calls Try.prog 9 #[.pointer (some ⟨p, 0, none⟩)] (W.alloc (.cells #[.pointer (some ⟨p, 0, none⟩)] 32)) fun e w' => ∃ v, e = .returned v ∧ (∃ a c, v = .slice a (K.pres s.f).length c) ∧ Hid (Calls Try.prog 65 #[v, .func (.func 66) #[] #[.pointer (some ⟨W.heap.size, 0, none⟩)]] w' fun e w2 => ∃ v', e = .returned v' ∧ (∃ a c, v' = .slice a (SO.oth s).length c) ∧ w2.ownsRow W.heap.size 3 1 v' (SO.oth s).length (flG lyI (SO.oth s)) ∧ Bl W w2)) := by
    refine (Present_x x1).mono ?_
    rintro e w1 ⟨v, rfl, h1, h2⟩
    obtain ⟨a, c, rfl, _⟩ := owns_rs lyI h1
    refine ⟨_, rfl, ⟨a, c, rfl⟩, ?_⟩
    have h1' := owns_base h1 (Below.size HB0)
    have hv : ∀ g, (Value.slice a (K.pres s.f).length c).ownBlock = some g → W.heap.size + 1 ≤ g := fun g e => by have := (owns_ge h1 e).1; simpa using this
    refine (DeleteI 66 #[.pointer (some ⟨W.heap.size, 0, none⟩)] (fun k => k == s.me) rfl h1' (by have := pres_len s.f; omega) (Below.size (HB0.step h2)) eg (fun W' t hg => ?_)).mono ?_
    · have hb1 : W'.heap[W.heap.size]? = w1.heap[W.heap.size]? := hg.block _ (by have := Below.size h2; simp at this; omega) (fun e => by have := hv _ e.symm; omega)
      have hb2 : W'.heap[p]? = w1.heap[p]? := hg.block _ (by have := Below.size h2; simp at this; omega) (fun e => by have := hv _ e.symm; omega)
      refine others1_x s.me t W.heap.size p W' ?_ ?_
      · rw [World.cell?_of_block hb1, Bl.cell h2 (by simp), Lib.cell_of_heap (heap_alloc_new W _)]; rfl
      · rw [World.cell?_of_block hb2]; exact (x1.grow h2).c10
    · rintro e w2 ⟨v', rfl, g1, g2, g3⟩
      obtain ⟨a', c', rfl, _⟩ := owns_rs lyI g1
      refine ⟨_, rfl, ⟨a', c', rfl⟩, g1, ?_⟩
      have hb := HB0.step h2
      exact ⟨g2.os.trans hb.os, g2.tape.trans hb.tape, g2.output.trans hb.output, Nat.le_trans hb.size g2.size, fun i hi => (g2.block i (Nat.lt_of_lt_of_le hi hb.size) (fun e => by have := hv i e.symm; omega)).trans (hb.block i hi)⟩
  generalize SO.oth s = ot at *
  generalize K.pres s.f = pr at *
  clear x x1 HB0 eg
  go_enter Try.func51, Try.ntmps51
  go_wp2_with (first
    | (go_at_call 9; refine (C1.out).mono ?_; clear C1; rintro e w1 ⟨v, rfl, ⟨a, c, rfl⟩, C2⟩)
    | (go_at_call 65; refine (C2.out).mono ?_; clear C2; rintro e w2 ⟨v', rfl, ⟨a', c', rfl⟩, h1, h2⟩; have H1 := hidI h1; have H2 := hidI h2; clear h1 h2))
  go_ret
  exact ⟨_, rfl, H1.out, H2.out⟩
end Go.Proofs.Ytebmgajijjhinaa
