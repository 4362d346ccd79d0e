/- The texts So30 OpK OpF Ris as one. -/
import Derived.Test.YtfpjknfgiciokaaScR
import Derived.Test.YtfpjknfgiciokaaSo2y
import Derived.Test.YtfpjknfgiciokaaKn4
import Derived.Test.YtfpjknfgiciokaaRows
import Derived.ProofKit
import Derived.OpenShut
import Derived.SliceStrings
import Derived.Test.YtfpjknfgiciokaaSo19
import Derived.Deep.CutBlock
import Derived.Deep.DeepCutAuto
/- A law's scout: all that it may do. -/
namespace Go.Proofs.Ytfpjknfgiciokaa
open Go.RowKit Go.Maps
set_option linter.unusedVariables false
set_option linter.unusedSimpArgs false

set_option maxRecDepth 8000 in
theorem All_go {W : World} {v : Value} {f : K.Vw} (C : GetC W v f) :
    Calls Try.prog 20 #[v] W fun e w' => ∃ a c, e = .returned (.slice a (K.all f).length c) ∧ (RS lyM w' a (K.all f) ∧ ∀ g off, a = some ⟨g, off, none⟩ → W.heap.size ≤ g) ∧ Bl W w' := by
  have CG : Hid (GetC W v f) := C
  clear C
  go_enter Try.func20, Try.ntmps20
  go_wp2_with fail
  go_loopw [3, 4] (fun u3 u4 wr => ∃ k : Nat, k ≤ 6 ∧ u4 = .int .i64 ((k : Int) + 1) ∧ Bl W wr ∧ wr.ownsRow W.heap.size 38 3 u3 (K.allN f k).length (flG lyM (K.allN f k))) (fun _ u4 _ => 7 - (intOf u4).toNat)
  case atStart => exact ⟨0, by omega, rfl, Bl.refl _, ⟨rfl, Or.inl ⟨rfl, rfl⟩⟩⟩
  case round =>
    obtain ⟨k, hk, rfl, HB, ho⟩ := hrel
    by_cases hlt : k < 6
    · have HS : Hid (K.allN f (k + 1) = K.allN f k ++ (f ((k : Int) + 1)).toList) := K.allN_succ f k
      have hal := K.allN_len f k
      have C1 : Hid (Calls Try.prog 44 #[v, .int .i64 ((k : Int) + 1)] wr fun e w' => e = .returned (.tuple #[.agg (meV (gv f ((k : Int) + 1))), .bool (f ((k : Int) + 1)).isSome]) ∧ Bl wr w') := (CG.out.up HB) _ wr (by constructor <;> omega) (Bl.refl _)
      have HO : Hid (wr.ownsRow W.heap.size 38 3 u3 (K.allN f k).length (flG lyM (K.allN f k))) := ho
      obtain ⟨L, hL⟩ : ∃ L, K.allN f k = L := ⟨_, rfl⟩
      rw [hL] at HS HO hal
      clear ho CG hL
      cases hfk : f ((k : Int) + 1) with
      | none =>
        have e0 : gv f ((k : Int) + 1) = (0, 0, 0) := by unfold gv; rw [hfk]; rfl
        rw [hfk] at C1 HS
        rw [e0] at C1
        clear hfk e0
        unfold meV at C1
        simp only [Option.isSome_none] at C1
        go_wp2_with (first
          | (go_at_call 44; refine (C1.out).mono ?_; clear C1; rintro e w' ⟨rfl, HB1⟩))
        go_roundw
        case rel => exact ⟨k + 1, by omega, by go_num, (HB.step HB1).alloc _, by rw [HS.out]; simpa using ownsRow_bl (ownsRow_bl HO.out HB1) ((Bl.refl _).alloc _)⟩
        case measure => simp [intOf]; omega
      | some m =>
        have e0 : gv f ((k : Int) + 1) = m := by unfold gv; rw [hfk]; rfl
        rw [hfk] at C1 HS
        rw [e0] at C1
        clear hfk e0
        obtain ⟨n, i, s⟩ := m
        unfold meV at C1
        simp only [Option.isSome_some] at C1
        go_wp2_with (first
          | (go_at_call 44; refine (C1.out).mono ?_; clear C1; rintro e w' ⟨rfl, HB1⟩; have HB2 : Hid (Bl W (w'.alloc (.cells #[.int .i64 n, .int .i64 i, .int .i64 s] 38))) := (HB.step HB1).alloc _; have HO2 : Hid ((w'.alloc (.cells #[.int .i64 n, .int .i64 i, .int .i64 s] 38)).ownsRow W.heap.size 38 3 u3 L.length (flG lyM L)) := ownsRow_bl (ownsRow_bl HO.out HB1) ((Bl.refl _).alloc _))
          | (refine wl_app1M lyM 38 30 (.agg #[.int .i64 0, .int .i64 0, .int .i64 0]) 24 undMs infoMe3 rfl (by decide) rfl _ _ rfl L.length L rfl (n, i, s) u3 rfl HB2.out HO2.out (w'.heap.size + 1) (by simp) rfl (by omega) ?_ _ rfl rfl; intro a' c' w2 g1 g2 g3))
        have z1 : w2.ownsRow W.heap.size 38 3 (.slice a' (L.length + 1) c') (K.allN f (k + 1)).length (flG lyM (K.allN f (k + 1))) := by
          have e : K.allN f (k + 1) = L ++ [(n, i, s)] := HS.out
          rw [e, List.length_append]; exact g1
        go_roundw
        case rel => exact ⟨k + 1, by omega, by go_num, g2, z1⟩
        case measure => simp [intOf]; omega
    · obtain rfl : k = 6 := by omega
      obtain ⟨a', c', rfl, h4⟩ := owns_rs lyM ho
      have HQ : Hid ((RS lyM wr a' (K.all f) ∧ ∀ g off, a' = some ⟨g, off, none⟩ → W.heap.size ≤ g) ∧ Bl W wr) := ⟨⟨h4, fun g off e => (owns_ge ho (by rw [e]; rfl)).1⟩, HB⟩
      clear ho h4 CG HB
      go_wp2_with fail
      go_ret
      exact ⟨a', c', rfl, HQ.out⟩
theorem All_xo {w W : World} {p : Nat} {P : Pl} {B : Nat → Prop} {N : Nat} {s : SO.Sc} (x : S0 w p P B N s W) :
    Calls Try.prog 11 #[.pointer (some ⟨p, 0, none⟩)] W fun e w' => ∃ a c, e = .returned (.slice a (K.all s.f).length c) ∧ (RS lyM w' a (K.all s.f) ∧ ∀ g off, a = some ⟨g, off, none⟩ → W.heap.size ≤ g) ∧ Bl W w' := by
  have c0 := x.c0
  have C1 : Hid (Calls Try.prog 20 #[.pointer (some ⟨P.q, 0, none⟩)] W fun e w' => ∃ a c, e = .returned (.slice a (K.all s.f).length c) ∧ (RS lyM w' a (K.all s.f) ∧ ∀ g off, a = some ⟨g, off, none⟩ → W.heap.size ≤ g) ∧ Bl W w') := All_go x.vt.getC
  generalize P.q = q at *
  generalize K.all s.f = l at *
  clear x
  go_enter Try.func11, Try.ntmps11
  go_wp2_with (go_at_call 20; refine (C1.out).mono ?_; clear C1; rintro e w1 ⟨a, c, rfl, hb⟩)
  go_ret
  exact ⟨a, c, rfl, hb⟩
theorem All_nil (W : World) : Calls Try.prog 11 #[.pointer none] W fun e w' => e = .returned (.slice none 0 0) ∧ w' = W := by
  go_enter Try.func11, Try.ntmps11
  go_wp2_with fail
  go_ret
  exact ⟨rfl, rfl⟩
theorem Present_nil (W : World) : Calls Try.prog 19 #[.pointer none] W fun e w' => e = .returned (.slice none 0 0) ∧ w' = W := by
  go_enter Try.func19, Try.ntmps19
  go_wp2_with fail
  go_ret
  exact ⟨rfl, rfl⟩
theorem Hear_y {w W : World} {p : Nat} {P : Pl} {B : Nat → Prop} {N : Nat} {s : SO.Sc} (x : S0 w p P B N s W) (hN : N ≤ 10000000000) (FL : List Value) (f : SO.Fr) (a : Option Addr) (c : Nat) (hf : FrC FL f a c) (hfr : i64 f.frm) (hr : RS lyM W a f.rum) (ha : ∀ g off, a = some ⟨g, off, none⟩ → f.rum ≠ [] → ¬ B g) (hi : ∀ m ∈ f.rum, i64 m.1 ∧ i64 m.2.1) (hl : f.rum.length ≤ 1000) :
    Calls Try.prog 14 #[.pointer (some ⟨p, 0, none⟩), .agg FL.toArray] W fun e w' => Ans w p B W (N + 2 * f.rum.length + 1) (SO.hear s f).1 (SO.hear s f).2 e w' :=
  Hear_x x hN FL f a c hf hfr hr ha hi hl (fun _ M t U hM h => by
    obtain ⟨B', ⟨P', X⟩, O⟩ := h
    exact (runErrand_x X (by omega) FL f a c hf).mono fun e w' h => Ans.from O h)
theorem All_ln {w U : World} {p N : Nat} {s : SO.Sc} {Z : World → Prop} (h : LW w p N s Z U) : Calls Try.prog 11 #[.pointer (some ⟨p, 0, none⟩)] U fun e w' => ∃ a c, e = .returned (.slice a (K.all s.f).length c) ∧ LW w p N s (fun V => Z V ∧ RS lyM V a (K.all s.f)) w' := by
  obtain ⟨B, ⟨P, x⟩, k⟩ := id h
  refine (All_xo x).mono ?_
  rintro e w' ⟨a, c, rfl, ⟨h1, h2⟩, h3⟩
  refine ⟨a, c, rfl, h.add h3 (fun V' hs hk i m hm => ?_)⟩
  obtain ⟨b, off, e1, e2, e3⟩ := h1 i m hm
  have e4 := hk b (h2 b off e1) e2
  exact ⟨b, off, e1, Nat.lt_of_lt_of_le e2 hs, fun j v hv => by rw [World.cell?_of_block e4]; exact e3 j v hv⟩
theorem Hear_ly {w U : World} {p N : Nat} {s : SO.Sc} {Z : World → Prop} (h : LW w p N s Z U) (hN : N ≤ 10000000000) (FL : List Value) (f : SO.Fr) (a : Option Addr) (c : Nat) (hf : FrC FL f a c) (hfr : i64 f.frm) (hr : RS lyM w a f.rum) (hi : ∀ m ∈ f.rum, i64 m.1 ∧ i64 m.2.1) (hl : f.rum.length ≤ 1000) :
    Calls Try.prog 14 #[.pointer (some ⟨p, 0, none⟩), .agg FL.toArray] U fun e w' => ∃ a c, e = .returned (.slice a (SO.hear s f).2.length c) ∧ LW w p (N + 2 * f.rum.length + 1) (SO.hear s f).1 Z w' := by
  obtain ⟨B, ⟨P, x⟩, k⟩ := h
  refine (Hear_y x hN FL f a c hf hfr (hr.bl x.bl) (fun g off e hne hB => ?_) hi hl).mono fun e w' h => ?_
  · obtain ⟨m, hm⟩ : ∃ m, f.rum[0]? = some m := by
      cases hrm : f.rum with
      | nil => exact absurd hrm hne
      | cons m r => exact ⟨m, rfl⟩
    obtain ⟨b, off', e1, e2, _⟩ := hr 0 m hm
    rw [e] at e1
    cases e1
    have := (x.Bo _ hB).1
    omega
  · obtain ⟨a, c, h1, h2⟩ := Ans.lw ⟨P, x⟩ k h
    exact ⟨a, c, h1, h2.weak fun V h => h.1⟩
theorem Leave_l {w U : World} {p N : Nat} {s : SO.Sc} {Z : World → Prop} (h : LW w p N s Z U) (hN : N ≤ 100000000000) : Calls Try.prog 15 #[.pointer (some ⟨p, 0, none⟩)] U fun e w' => ∃ a c, e = .returned (.slice a (SO.leave s).2.length c) ∧ LW w p (N + 1) (SO.leave s).1 Z w' := by
  obtain ⟨B, ⟨P, x⟩, k⟩ := h
  refine (Leave_x x hN).mono fun e w' h => ?_
  obtain ⟨a, c, h1, h2⟩ := Ans.lw ⟨P, x⟩ k h
  exact ⟨a, c, h1, h2.weak fun V h => h.1⟩
end Go.Proofs.Ytfpjknfgiciokaa

/- Members that came in, opened. -/
namespace Go.Proofs.Ytfpjknfgiciokaa
open Go.ChangeShapes Go.WideShapes Go.ChangeAt Go.RowKit
set_option linter.unusedVariables false

theorem own : ownKnob Try.prog.godebug = none := by kernel_rfl
theorem laidOut : laidOutB Try.prog = true := by kernel_rfl
theorem block_lt {w : World} {b o : Nat} {v : Value} (h : w.cell? ⟨b, o, none⟩ = some v) : b < w.heap.size := by
  rcases Nat.lt_or_ge b w.heap.size with h' | h'
  · exact h'
  · unfold World.cell? at h
    rw [Array.getElem?_eq_none h'] at h
    simp at h
theorem wf_i64 {x : Int} (h : (Lit.int .i64 x).wf = true) : -9223372036854775808 ≤ x ∧ x ≤ 9223372036854775807 := by
  simpa [Lit.wf, IntKind.min, IntKind.max, IntKind.signed, IntKind.bits] using h
theorem list_ofG {α : Type} {P : Nat → α → Prop} : ∀ n : Nat, (∀ i, i < n → ∃ d, P i d) → ∃ l : List α, l.length = n ∧ ∀ i d, l[i]? = some d → P i d
  | 0, _ => ⟨[], rfl, fun i d h => by simp at h⟩
  | n + 1, h => by
    obtain ⟨l, hl, hp⟩ := list_ofG n (fun i hi => h i (by omega))
    obtain ⟨d, hd⟩ := h n (by omega)
    refine ⟨l ++ [d], by simp [hl], fun i x hx => ?_⟩
    by_cases hi : i < n
    · rw [List.getElem?_append_left (by omega)] at hx; exact hp i x hx
    · rw [List.getElem?_append_right (by omega)] at hx
      have hin : i = n := by
        have := (List.getElem?_eq_some_iff.1 hx).1
        simp at this; omega
      subst hin
      simp [hl] at hx; subst hx; exact hd
theorem cMe : Try.prog.cellsOf 38 = 3 := by kernel_rfl
theorem open_rows {α : Type} (E : Lay α) (ok : α → Prop) {T TS : TypeId} (hund : Try.prog.underlying TS = some (.slice T)) (hc : Try.prog.cellsOf T = E.k) {H : Type} {enc : TypeId × Value → H} {W : World}
    (one : ∀ (n : Nat) (cs : List Value) (d : DataW H) (p : List MemPlace), DataW.trod enc Try.prog W 0 (fun _ => true) true n T cs = some (d, p) → ∃ x, cs = E.f x ∧ ok x) {fuel : Nat} {v : Value} {d : DataW H} {p : List MemPlace}
    (hf : DataW.trod enc Try.prog W 0 (fun _ => true) true fuel TS [v] = some (d, p)) :
    ∃ (a : Option Addr) (c : Nat) (l : List α), v = .slice a l.length c ∧ RS E W a l ∧ l.length ≤ maxLen ∧ ∀ t ∈ l, ok t := by
  have hk := E.pos
  rcases DataW.trod_slice hund hf with ⟨hcs, hx⟩ | ⟨a, len, cap, elems, rest, n, _, hcs, hx, hb, hl, hm, hlen, hel, _, _⟩
  · simp only [List.cons.injEq, and_true] at hcs
    subst hcs
    exact ⟨none, 0, [], rfl, fun i d h => by simp at h, by simp, fun t ht => by simp at ht⟩
  · simp only [List.cons.injEq, and_true] at hcs
    subst hcs
    have key : ∀ i, i < len → ∃ y : α, W.cells? 0 (a.add (i * E.k)) E.k = some (E.f y) ∧ ok y := fun i hi => by
      have h := hel i hi
      rw [hc, List.getElem?_eq_getElem (by omega)] at h
      cases hcc : W.cells? 0 (a.add (i * E.k)) E.k with
      | none => rw [hcc] at h; simp at h
      | some cs =>
        rw [hcc] at h
        simp only [Option.bind_some] at h
        obtain ⟨x, hx⟩ : ∃ x, elems[i] = x := ⟨_, rfl⟩
        rw [hx] at h
        obtain ⟨d, p⟩ := x
        obtain ⟨t, y1, y2⟩ := one _ _ _ _ h
        exact ⟨t, by rw [y1], y2⟩
    obtain ⟨l, hll, hlp⟩ := list_ofG len key
    refine ⟨some a, cap, l, by simp [hll], fun i t hi => ?_, by omega, fun t ht => ?_⟩
    · obtain ⟨h1, h2⟩ := hlp i t hi
      have hspot : a.spot = none := by
        have hil : i < l.length := (List.getElem?_eq_some_iff.1 hi).1
        obtain ⟨g1, g2⟩ := hlp 0 _ (List.getElem?_eq_getElem (by omega : 0 < l.length))
        obtain ⟨_, _, gce⟩ := World.cells?_some g1
        have g0 := gce 0 (by omega)
        rw [List.getElem?_eq_getElem (by rw [E.len]; omega)] at g0
        have := World.cell?_spot g0
        simpa [Addr.add] using this
      obtain ⟨_, hcl, hce⟩ := World.cells?_some h1
      obtain ⟨b, off, spot⟩ := a
      subst hspot
      have c0 := hce 0 (by omega)
      rw [Addr.add_mid, Addr.add_mid, List.getElem?_eq_getElem (by rw [E.len]; omega)] at c0
      refine ⟨b, off, rfl, block_lt c0, fun j v hv => ?_⟩
      have hj : j < E.k := by have := (List.getElem?_eq_some_iff.1 hv).1; rw [E.len] at this; exact this
      have := hce j hj
      rw [Addr.add_mid, Addr.add_mid, hv] at this
      exact this
    · obtain ⟨i, hi, rfl⟩ := List.getElem_of_mem ht
      exact (hlp i _ (List.getElem?_eq_getElem hi)).2
/-- each of its numbers is one that an int holds -/
def okM (m : K.Me) : Prop := i64 m.1 ∧ i64 m.2.1 ∧ i64 m.2.2
set_option maxRecDepth 8000 in
theorem me_of {H : Type} {enc : TypeId × Value → H} {W : World} {fuel : Nat} {cs : List Value} {d : DataW H} {p : List MemPlace}
    (h : DataW.trod enc Try.prog W 0 (fun _ => true) true fuel 38 cs = some (d, p)) : ∃ t : K.Me, cs = lyM.f t ∧ okM t := by
  obtain ⟨xs, n, _, hx, hcl, hxl, hfi⟩ := DataW.trod_struct Try.underlying38 h
  rw [cMe] at hcl
  have g : ∀ (i : Nat), i < 3 → ∃ x, xs[i]? = some x := fun i hi => ⟨xs[i]'(by rw [hxl]; exact hi), List.getElem?_eq_getElem _⟩
  obtain ⟨⟨d0, p0⟩, e0⟩ := g 0 (by omega)
  obtain ⟨⟨d1, p1⟩, e1⟩ := g 1 (by omega)
  obtain ⟨⟨d2, p2⟩, e2⟩ := g 2 (by omega)
  have f0 := hfi 0 _ rfl
  have f1 := hfi 1 _ rfl
  have f2 := hfi 2 _ rfl
  rw [e0] at f0
  rw [e1] at f1
  rw [e2] at f2
  have f0' : DataW.trod enc Try.prog W 0 (fun _ => true) true n 3 ((cs.drop 0).take 1) = some (d0, p0) := f0
  have f1' : DataW.trod enc Try.prog W 0 (fun _ => true) true n 3 ((cs.drop 1).take 1) = some (d1, p1) := f1
  have f2' : DataW.trod enc Try.prog W 0 (fun _ => true) true n 3 ((cs.drop 2).take 1) = some (d2, p2) := f2
  match cs, hcl with
  | [c0, c1, c2], _ =>
    simp only [List.drop_zero, List.drop_succ_cons, List.take_succ_cons, List.take_zero] at f0' f1' f2'
    obtain ⟨x, i1, i2, i3⟩ := DataW.trod_int Try.underlying3 f0'
    obtain ⟨y, j1, j2, j3⟩ := DataW.trod_int Try.underlying3 f1'
    obtain ⟨z, k1, k2, k3⟩ := DataW.trod_int Try.underlying3 f2'
    simp only [List.cons.injEq, and_true] at i1 j1 k1
    subst i1 j1 k1
    exact ⟨(x, y, z), rfl, wf_i64 i3, wf_i64 j3, wf_i64 k3⟩
set_option maxRecDepth 100000 in
/-- MEMBERS THAT CAME IN -/
theorem open_members {H : Type} {enc : TypeId × Value → H} {W : World} {base : Nat} {v : Value} {d : DataW H} {p : List MemPlace}
    (hok : Value.okWide Try.prog W .any base 30 v) (h : DataW.Trod enc Try.prog W 0 (fun _ => true) true 30 v d p) :
    ∃ (a : Option Addr) (c : Nat) (l : List K.Me), v = .slice a l.length c ∧ RS lyM W a l ∧ l.length ≤ maxLen ∧ ∀ t ∈ l, okM t := by
  obtain ⟨a0, len0, cap0, rfl⟩ := okWide_slice Try.underlying30 hok
  obtain ⟨fuel, hf0⟩ := h
  have hf : DataW.trod enc Try.prog W 0 (fun _ => true) true fuel 30 [.slice a0 len0 cap0] = some (d, p) := by simpa [Value.cells] using hf0
  exact open_rows lyM okM Try.underlying30 cMe (fun n cs d p h => me_of h) hf
set_option maxRecDepth 100000 in
/-- A MEMBER THAT CAME IN -/
theorem open_member {H : Type} {enc : TypeId × Value → H} {W : World} {base : Nat} {v : Value} {d : DataW H} {p : List MemPlace}
    (hok : Value.okWide Try.prog W .any base 38 v) (h : DataW.Trod enc Try.prog W 0 (fun _ => true) true 38 v d p) :
    ∃ t : K.Me, v = .agg (meV t) ∧ okM t := by
  obtain ⟨fuel, hf⟩ := h
  obtain ⟨t, h1, h2⟩ := me_of hf
  refine ⟨t, ?_, h2⟩
  have hlen : v.cells.size = 3 := by rw [← Array.length_toList, h1]; rfl
  have hv : ∃ cs, v = .agg cs := by
    cases v <;> simp [Value.cells] at hlen
    exact ⟨_, rfl⟩
  obtain ⟨cs, rfl⟩ := hv
  congr 1
  apply Array.toList_inj.1
  exact h1
end Go.Proofs.Ytfpjknfgiciokaa

/- A law's acts that came in, opened: frames with lists of their own. -/
namespace Go.Proofs.Ytfpjknfgiciokaa
open Go.ChangeShapes Go.WideShapes Go.ChangeAt Go.RowKit
set_option linter.unusedVariables false

/-- whatever of this type came in lies in plain cells -/
def OneT (H : Type) (t : TypeId) : Prop := ∀ (enc : TypeId × Value → H) (W : World) (n : Nat) (cs : List Value) (x : DataW H × List MemPlace), DataW.trod enc Try.prog W 0 (fun _ => true) true n t cs = some x → ∀ v ∈ cs, v.oneCell' = true
theorem one_int {H : Type} {t : TypeId} {k : IntKind} (ht : Try.prog.underlying t = some (.int k)) : OneT H t := fun enc W n cs x h => by
  obtain ⟨z, rfl, _⟩ := DataW.trod_int ht h
  intro v hv; simp at hv; subst hv; rfl
theorem one_bool {H : Type} {t : TypeId} (ht : Try.prog.underlying t = some .bool) : OneT H t := fun enc W n cs x h => by
  obtain ⟨z, rfl, _⟩ := DataW.trod_bool ht h
  intro v hv; simp at hv; subst hv; rfl
theorem one_string {H : Type} {t : TypeId} (ht : Try.prog.underlying t = some .string) : OneT H t := fun enc W n cs x h => by
  obtain ⟨z, rfl, _⟩ := DataW.trod_string ht h
  intro v hv; simp at hv; subst hv; rfl
theorem one_slice {H : Type} {t e : TypeId} (ht : Try.prog.underlying t = some (.slice e)) : OneT H t := fun enc W n cs x h => by
  rcases DataW.trod_slice ht h with ⟨rfl, _⟩ | ⟨a, len, cap, elems, rest, n, _, rfl, _⟩
  · intro v hv; simp at hv; subst hv; rfl
  · intro v hv; simp at hv; subst hv; rfl
theorem one_array {H : Type} {t e : TypeId} {m : Nat} (ht : Try.prog.underlying t = some (.array m e)) (he : OneT H e) (hc : Try.prog.cellsOf t = m * Try.prog.cellsOf e) (hp : 0 < Try.prog.cellsOf e) : OneT H t := fun enc W n cs x h => by
  obtain ⟨xs, k, _, _, hl, hxl, hi⟩ := DataW.trod_array ht h
  intro v hv
  obtain ⟨j, hj, rfl⟩ := List.getElem_of_mem hv
  rw [hl, hc] at hj
  have hq : j / Try.prog.cellsOf e < m := Nat.div_lt_of_lt_mul (by rw [Nat.mul_comm]; exact hj)
  have h1 := hi (j / Try.prog.cellsOf e) hq
  rw [List.getElem?_eq_getElem (by omega)] at h1
  refine he enc W k _ _ h1 _ ?_
  have hm := Nat.mod_lt j hp
  have hd := Nat.div_add_mod j (Try.prog.cellsOf e)
  rw [Nat.mul_comm] at hd
  refine List.mem_of_getElem? (i := j % Try.prog.cellsOf e) ?_
  rw [List.getElem?_take, if_pos hm, List.getElem?_drop, hd]
  exact List.getElem?_eq_getElem _
theorem one_struct {H : Type} {t : TypeId} {fs : Array Field} (ht : Try.prog.underlying t = some (.struct fs)) (cov : ∀ j, j < Try.prog.cellsOf t → ∃ (i : Nat) (f : Field), fs[i]? = some f ∧ f.offset ≤ j ∧ j < f.offset + Try.prog.cellsOf f.type) (hf : ∀ f ∈ fs.toList, OneT H f.type) : OneT H t := fun enc W n cs x h => by
  obtain ⟨xs, k, _, _, hl, hxl, hi⟩ := DataW.trod_struct ht h
  intro v hv
  obtain ⟨j, hj, rfl⟩ := List.getElem_of_mem hv
  obtain ⟨i, f, e1, e2, e3⟩ := cov j (by omega)
  have h1 := hi i f e1
  have hil : i < fs.size := (Array.getElem?_eq_some_iff.1 e1).1
  rw [List.getElem?_eq_getElem (by omega)] at h1
  refine hf f (Array.mem_toList_iff.2 (Array.mem_of_getElem? e1)) enc W k _ _ h1 _ ?_
  refine List.mem_of_getElem? (i := j - f.offset) ?_
  rw [List.getElem?_take, if_pos (by omega), List.getElem?_drop, show f.offset + (j - f.offset) = j by omega]
  exact List.getElem?_eq_getElem _
/-- how a struct's fields lie: a search that the kernel runs -/
def covB (P : Program) (t : TypeId) (fs : Array Field) : Bool := (List.range (P.cellsOf t)).all fun j => fs.toList.any fun f => decide (f.offset ≤ j) && decide (j < f.offset + P.cellsOf f.type)
theorem cov_of {P : Program} {t : TypeId} {fs : Array Field} (h : covB P t fs = true) : ∀ j, j < P.cellsOf t → ∃ (i : Nat) (f : Field), fs[i]? = some f ∧ f.offset ≤ j ∧ j < f.offset + P.cellsOf f.type := fun j hj => by
  unfold covB at h
  rw [List.all_eq_true] at h
  have h1 := h j (List.mem_range.2 hj)
  rw [List.any_eq_true] at h1
  obtain ⟨f, hf, h2⟩ := h1
  rw [Bool.and_eq_true, decide_eq_true_eq, decide_eq_true_eq] at h2
  obtain ⟨i, hi, e⟩ := List.getElem_of_mem hf
  exact ⟨i, f, by rw [← Array.getElem?_toList, List.getElem?_eq_getElem hi, e], h2.1, h2.2⟩
theorem oneDg (H : Type) : OneT H 44 := one_array Try.underlying44 (one_int Try.underlying5) (by kernel_rfl) (by decide +kernel)
theorem oneHz (H : Type) : OneT H 49 := one_array Try.underlying49 (one_int Try.underlying5) (by kernel_rfl) (by decide +kernel)
theorem oneIn (H : Type) : OneT H 3 := one_int Try.underlying3
set_option maxRecDepth 100000 in
theorem oneRc (H : Type) : OneT H 47 := one_struct Try.underlying47 (cov_of (by kernel_rfl)) (fun f hf => by
  simp only [List.mem_cons, List.not_mem_nil, or_false] at hf
  rcases hf with rfl | rfl | rfl <;> first | exact oneDg H | exact oneIn H | exact one_int Try.underlying45)
set_option maxRecDepth 100000 in
theorem oneMn (H : Type) : OneT H 52 := one_struct Try.underlying52 (cov_of (by kernel_rfl)) (fun f hf => by
  simp only [List.mem_cons, List.not_mem_nil, or_false] at hf
  rcases hf with rfl | rfl | rfl <;> first | exact oneDg H | exact oneIn H | exact one_slice Try.underlying50)
set_option maxRecDepth 100000 in
theorem oneFr (H : Type) : OneT H 56 := one_struct Try.underlying56 (cov_of (by kernel_rfl)) (fun f hf => by
  simp only [List.mem_cons, List.not_mem_nil, or_false] at hf
  rcases hf with rfl | rfl | rfl | rfl | rfl | rfl | rfl | rfl | rfl | rfl | rfl | rfl | rfl | rfl | rfl
  · exact oneIn H
  · exact oneIn H
  · exact oneIn H
  · exact oneIn H
  · exact oneDg H
  · exact one_bool Try.underlying4
  · exact oneRc H
  · exact oneDg H
  · exact oneIn H
  · exact one_string Try.underlying9
  · exact oneHz H
  · exact oneMn H
  · exact one_slice Try.underlying53
  · exact one_slice Try.underlying54
  · exact one_slice Try.underlying30)
theorem cFr : Try.prog.cellsOf 56 = 237 := by kernel_rfl
theorem cAx : Try.prog.cellsOf 58 = 239 := by kernel_rfl
theorem get_of {l : List Value} {o : Nat} {v : Value} (h : (l.drop o).take 1 = [v]) : l[o]? = some v := by
  have := congrArg (fun l : List Value => l[0]?) h
  simpa using this
/-- a frame that came in: what it says, and its rumours -/
def okF (W : World) (FL : List Value) : Prop := ∃ (f : SO.Fr) (a : Option Addr) (c : Nat), FrC FL f a c ∧ RS lyM W a f.rum ∧ (∀ m ∈ f.rum, okM m) ∧ i64 f.kind ∧ i64 f.frm ∧ i64 f.seq ∧ i64 f.node ∧ f.rum.length ≤ maxLen
set_option maxRecDepth 100000 in
theorem fr_of {H : Type} {enc : TypeId × Value → H} {W : World} {fuel : Nat} {cs : List Value} {x : DataW H × List MemPlace}
    (h : DataW.trod enc Try.prog W 0 (fun _ => true) true fuel 56 cs = some x) : cs.length = 237 ∧ (∀ v ∈ cs, v.oneCell' = true) ∧ okF W cs := by
  have h1 := oneFr H enc W fuel cs x h
  obtain ⟨xs, n, _, hx, hcl, hxl, hfi⟩ := DataW.trod_struct Try.underlying56 h
  rw [cFr] at hcl
  have g : ∀ (i : Nat), i < 15 → ∃ x, xs[i]? = some x := fun i hi => ⟨xs[i]'(by rw [hxl]; exact hi), List.getElem?_eq_getElem _⟩
  obtain ⟨x0, e0⟩ := g 0 (by omega)
  obtain ⟨x1, e1⟩ := g 1 (by omega)
  obtain ⟨x2, e2⟩ := g 2 (by omega)
  obtain ⟨x3, e3⟩ := g 3 (by omega)
  obtain ⟨⟨d14, p14⟩, e14⟩ := g 14 (by omega)
  have f0 := hfi 0 _ rfl
  have f1 := hfi 1 _ rfl
  have f2 := hfi 2 _ rfl
  have f3 := hfi 3 _ rfl
  have f14 := hfi 14 _ rfl
  rw [e0] at f0
  rw [e1] at f1
  rw [e2] at f2
  rw [e3] at f3
  rw [e14] at f14
  have f0' : DataW.trod enc Try.prog W 0 (fun _ => true) true n 3 ((cs.drop 0).take 1) = some x0 := f0
  have f1' : DataW.trod enc Try.prog W 0 (fun _ => true) true n 3 ((cs.drop 1).take 1) = some x1 := f1
  have f2' : DataW.trod enc Try.prog W 0 (fun _ => true) true n 3 ((cs.drop 2).take 1) = some x2 := f2
  have f3' : DataW.trod enc Try.prog W 0 (fun _ => true) true n 3 ((cs.drop 3).take 1) = some x3 := f3
  have f14' : DataW.trod enc Try.prog W 0 (fun _ => true) true n 30 ((cs.drop 236).take 1) = some (d14, p14) := f14
  obtain ⟨k0, i0, _, w0⟩ := DataW.trod_int Try.underlying3 f0'
  obtain ⟨k1, i1, _, w1⟩ := DataW.trod_int Try.underlying3 f1'
  obtain ⟨k2, i2, _, w2⟩ := DataW.trod_int Try.underlying3 f2'
  obtain ⟨k3, i3, _, w3⟩ := DataW.trod_int Try.underlying3 f3'
  obtain ⟨v14, hv14⟩ : ∃ v, (cs.drop 236).take 1 = [v] := by
    have : ((cs.drop 236).take 1).length = 1 := by simp; omega
    exact List.length_eq_one_iff.1 this
  rw [hv14] at f14'
  obtain ⟨a, c, l, hva, hrs, hll, hok⟩ := open_rows lyM okM Try.underlying30 cMe (fun n cs d p h => me_of h) f14'
  exact ⟨hcl, h1, ⟨0, k0, k1, k2, k3, l⟩, a, c, ⟨hcl, h1, get_of i0, get_of i1, get_of i2, get_of i3, by rw [get_of hv14, hva]⟩, hrs, hok, wf_i64 w0, wf_i64 w1, wf_i64 w2, wf_i64 w3, hll⟩
/-- an act that came in -/
structure Ax where
  kind : Int
  n : Int
  fl : List Value
  len : fl.length = 237
  one : ∀ v ∈ fl, v.oneCell' = true
def lyX : Lay Ax := ⟨239, fun x => .int .i64 x.kind :: .int .i64 x.n :: x.fl, fun x => by simp [x.len], fun x v hv => by
  simp only [List.mem_cons] at hv
  rcases hv with rfl | rfl | hv
  · rfl
  · rfl
  · exact x.one v hv, by decide⟩
def okX (W : World) (x : Ax) : Prop := i64 x.kind ∧ i64 x.n ∧ okF W x.fl
set_option maxRecDepth 100000 in
theorem ax_of {H : Type} {enc : TypeId × Value → H} {W : World} {fuel : Nat} {cs : List Value} {d : DataW H} {p : List MemPlace}
    (h : DataW.trod enc Try.prog W 0 (fun _ => true) true fuel 58 cs = some (d, p)) : ∃ t : Ax, cs = lyX.f t ∧ okX W t := by
  obtain ⟨xs, n, _, hx, hcl, hxl, hfi⟩ := DataW.trod_struct Try.underlying58 h
  rw [cAx] at hcl
  have g : ∀ (i : Nat), i < 3 → ∃ x, xs[i]? = some x := fun i hi => ⟨xs[i]'(by rw [hxl]; exact hi), List.getElem?_eq_getElem _⟩
  obtain ⟨x0, e0⟩ := g 0 (by omega)
  obtain ⟨x1, e1⟩ := g 1 (by omega)
  obtain ⟨x2, e2⟩ := g 2 (by omega)
  have f0 := hfi 0 _ rfl
  have f1 := hfi 1 _ rfl
  have f2 := hfi 2 _ rfl
  rw [e0] at f0
  rw [e1] at f1
  rw [e2] at f2
  have f0' : DataW.trod enc Try.prog W 0 (fun _ => true) true n 3 ((cs.drop 0).take 1) = some x0 := f0
  have f1' : DataW.trod enc Try.prog W 0 (fun _ => true) true n 3 ((cs.drop 1).take 1) = some x1 := f1
  have f2' : DataW.trod enc Try.prog W 0 (fun _ => true) true n 56 ((cs.drop 2).take (Try.prog.cellsOf 56)) = some x2 := f2
  rw [cFr] at f2'
  obtain ⟨k0, i0, _, w0⟩ := DataW.trod_int Try.underlying3 f0'
  obtain ⟨k1, i1, _, w1⟩ := DataW.trod_int Try.underlying3 f1'
  obtain ⟨g1, g2, g3⟩ := fr_of f2'
  match cs, hcl with
  | c0 :: c1 :: r, hcl =>
    simp only [List.drop_zero, List.drop_succ_cons, List.take_succ_cons, List.take_zero, List.cons.injEq, and_true] at i0 i1
    simp only [List.drop_succ_cons, List.drop_zero] at g1 g2 g3
    have hr : r.take 237 = r := List.take_of_length_le (by simp at hcl; omega)
    rw [hr] at g1 g2 g3
    subst i0 i1
    exact ⟨⟨k0, k1, r, g1, g2⟩, rfl, wf_i64 w0, wf_i64 w1, g3⟩
set_option maxRecDepth 100000 in
/-- ACTS THAT CAME IN -/
theorem open_acts12 {H : Type} {enc : TypeId × Value → H} {W : World} {base : Nat} {v : Value} {d : DataW H} {p : List MemPlace}
    (hok : Value.okWide Try.prog W .any base 42 v) (h : DataW.Trod enc Try.prog W 0 (fun _ => true) true 42 v d p) :
    ∃ (a : Option Addr) (c : Nat) (l : List Ax), v = .slice a l.length c ∧ RS lyX W a l ∧ l.length ≤ maxLen ∧ ∀ t ∈ l, okX W t := by
  obtain ⟨a0, len0, cap0, rfl⟩ := okWide_slice Try.underlying42 hok
  obtain ⟨fuel, hf0⟩ := h
  have hf : DataW.trod enc Try.prog W 0 (fun _ => true) true fuel 42 [.slice a0 len0 cap0] = some (d, p) := by simpa [Value.cells] using hf0
  exact open_rows lyX (okX W) Try.underlying42 cAx (fun n cs d p h => ax_of h) hf
end Go.Proofs.Ytfpjknfgiciokaa

/- ScoutRises: the walk. -/
namespace Go.Proofs.Ytfpjknfgiciokaa
open Go.RowKit Go.Maps
set_option linter.unusedVariables false
set_option linter.unusedSimpArgs false

abbrev tAx : TypeId := 58
def zAx : Array Value := (.int .i64 0 :: .int .i64 0 :: frL 0 0 0 0 zM nilV).toArray
theorem zAx_size : zAx.size = 239 := by simp [zAx, frL_len zM_len]
theorem undAx : ∃ fs, Try.prog.underlying tAx = some (.struct fs) := ⟨_, Try.underlying58⟩
theorem infoAx : (Try.prog.info? tAx).map (·.size) = some 239 := by kernel_rfl
theorem wl_bs1W {ops : Array Oper} {rest : List Oper} {o : Oper} {a : Act} {w : World} {Q : Exit → Act → World → Prop} (hw : Region.wanted o (yielded ops a.tmps) = true) (TS T : TypeId) (x : Operand) (ho : o.op = .buildSlice TS 1 #[(0, x)]) (L : List Value) (n bytes : Nat) (z : Value) (hu : Try.prog.underlying TS = some (.slice T)) (hi : (Try.prog.info? T).map (fun i => (i.zero, i.size, i.bytes)) = some (some z, n, bytes)) (hn : L.length = n) (h0 : 0 < n) (h1 : n ≤ 16777216) (hx : a.eval x = .agg L.toArray)
    (h : wpList Try.prog ops Q rest (a.put o.dst (.slice (some ⟨w.heap.size, 0, none⟩) 1 1)) (w.alloc (.cells L.toArray T))) : wpList Try.prog ops Q (o :: rest) a w := by
  refine wpList_step fun _ hK => ?_
  rw [if_pos hw]
  obtain ⟨i, hi0, hz, hs, hb⟩ := info_partsT hi
  refine wp_buildSlice TS T 1 #[(0, x)] ho L.toArray i z hu hi0 hz (by rw [hs]; omega) (by rw [hs]; omega) ?_ (hK _ _ h)
  have hp : ((#[(0, x)] : Array (Nat × Operand)).map fun (i, x) => (i, a.eval x)).toList = [(0, .agg L.toArray)] := by simp [hx]
  rw [hp, hs]
  exact fill_all _ _ _ L rfl (by simp [hn]) (by simp [hn])
theorem LW.drewN {w U : World} {p N : Nat} {s : SO.Sc} {Z : World → Prop} (h : LW w p N s Z U) (k : Nat) : LW w p N s Z (U.drewN k) := h.grow ((Bl.refl U).drewN k)
theorem LW.alloc {w U : World} {p N : Nat} {s : SO.Sc} {Z : World → Prop} (h : LW w p N s Z U) (x : Obj) : LW w p N s Z (U.alloc x) := h.grow ((Bl.refl U).alloc x)
theorem LW.box {w U V : World} {p N : Nat} {s : SO.Sc} (h : LW w p N s (fun _ => True) U) (C : Array Value) (T : TypeId) (hV : V = U.alloc (.cells C T)) : LW w p N s (fun W => W.heap[U.heap.size]? = some (.cells C T (0, 0))) V := by
  subst hV
  refine (h.add ((Bl.refl U).alloc _) (fun V' hs hk => ?_)).weak fun V h => h.2
  rw [hk U.heap.size (Nat.le_refl _) (by simp)]
  exact heap_alloc_new _ _
/-- the law's answer to a ping -/
def ansB (l : Bool) (frm : Int) (n : Nat) (me : Int) : Bool := !l && (decide (1 ≤ frm) && decide (frm ≤ n) && !(frm == me))
structure BoxX (xb : Nat) (kind nn fk frm : Int) (rv : Value) (fl : List Value) (U : World) : Prop where
  k0 : U.cell? ⟨xb, 0, none⟩ = some (.int .i64 kind)
  k1 : U.cell? ⟨xb, 1, none⟩ = some (.int .i64 nn)
  k2 : U.cell? ⟨xb, 2, none⟩ = some (.int .i64 fk)
  k3 : U.cell? ⟨xb, 3, none⟩ = some (.int .i64 frm)
  kr : U.cell? ⟨xb, 238, none⟩ = some rv
  rg : U.rangeAt xb 2 fl
theorem boxX {ax : Ax} {f : SO.Fr} {fa : Option Addr} {fc : Nat} (hf : FrC ax.fl f fa fc) {U : World} {xb : Nat} (h : U.heap[xb]? = some (.cells (lyX.f ax).toArray tAx (0, 0))) : BoxX xb ax.kind ax.n f.kind f.frm (.slice fa f.rum.length fc) ax.fl U := by
  have e : ∀ j v, ax.fl[j]? = some v → (lyX.f ax)[2 + j]? = some v := fun j v hv => by
    show (Value.int .i64 ax.kind :: Value.int .i64 ax.n :: ax.fl)[2 + j]? = some v
    rw [show 2 + j = j + 1 + 1 by omega, List.getElem?_cons_succ, List.getElem?_cons_succ]
    exact hv
  exact ⟨cellL h rfl, cellL h rfl, cellL h (e 0 _ hf.k0), cellL h (e 1 _ hf.k1), cellL h (e 236 _ hf.kr), fun j v hv => cellL h (e j v hv)⟩
set_option maxRecDepth 8000 in
set_option maxHeartbeats 32000000 in
theorem rises_walk (w : World) (me0 : Int) (hme0 : i64 me0) (n0 : Int) (hn0 : i64 n0) (acts : List Ax) (aa : Option Addr) (ac : Nat) (hac : RS lyX w aa acts) (hal : acts.length ≤ 9223372036854775807) (hai : ∀ x ∈ acts, okX w x) :
    Calls Try.prog 5 #[.int .i64 me0, .int .i64 n0, .slice aa acts.length ac] w fun e w' => e = .returned (.bool true) ∧ Bl w w' := by
  have CA : Hid (Calls Try.prog 8 #[] w fun e w' => e = .returned (.bool true) ∧ Bl w w') := awake_12 (Bl.refl w)
  have hx1 : Int.tmod (IntKind.u64.wrap n0) 6 = (um12 n0 6 : Int) := um12_wrap n0 6
  have hx2 := um12_lt n0 6 (by omega)
  obtain ⟨n, hn⟩ : ∃ n, n = 1 + um12 n0 6 := ⟨_, rfl⟩
  have hy1 : Int.tmod (IntKind.u64.wrap me0) (1 + (um12 n0 6 : Int)) = (um12 me0 n : Int) := by
    have := um12_wrap me0 n
    rw [hn] at this ⊢
    exact this
  have hy2 := um12_lt me0 n (by omega)
  generalize um12 n0 6 = u at *
  generalize um12 me0 n = v at *
  obtain ⟨me, hme⟩ : ∃ me : Int, me = 1 + (v : Int) := ⟨_, rfl⟩
  have HN : Hid (1 + (u : Int) = (n : Int)) := by show _ = _; omega
  have HM : Hid (1 + (v : Int) = me) := hme.symm
  have CN : Hid (∀ U, Bl w U → Calls Try.prog 12 #[.int .i64 me, .int .i64 (n : Int)] U fun e w' => ∃ p, e = .returned (.pointer (some ⟨p, 0, none⟩)) ∧ LW w p 6 (SO.new me n) (fun _ => True) w') := fun U hU => (New_yes me n (by omega) (by omega) (by omega) (by omega) U).mono fun e w' ⟨p, B, h1, h2⟩ => ⟨p, h1, (LW.new h2).base hU⟩
  have CN2 : Hid (∀ U, Bl w U → Calls Try.prog 12 #[.int .i64 (1 + (v : Int)), .int .i64 (1 + (u : Int))] U fun e w' => ∃ p, e = .returned (.pointer (some ⟨p, 0, none⟩)) ∧ LW w p 6 (SO.new me n) (fun _ => True) w') := by rw [HN.out, HM.out]; exact CN
  have hn6 : n ≤ 6 := by omega
  have hn1 : 1 ≤ n := by omega
  have hm1 : 1 ≤ me := by omega
  have hm6 : me ≤ n := by omega
  have T0 := hidI (SO.ri_new (me := me) (n := n) hn6 hm1 hm6)
  obtain ⟨fs, humX⟩ := undAx
  obtain ⟨fsF, humF⟩ := undFr
  obtain ⟨fsM, humM⟩ := undMe
  obtain ⟨zS, hzS1, hzS2⟩ := infoSn3
  have hvu : (v : Int) < 1 + (u : Int) := by omega
  clear hn hme CN hn0 hme0
  have hw0 : IntKind.u64.wrap (1 + (u : Int)) = 1 + (u : Int) := by simp only [IntKind.wrap, IntKind.bits, IntKind.signed]; simp; omega
  go_enter Try.func5, Try.ntmps5
  go_wp2_with (first
    | (go_at_call 8; refine (CA.out).mono ?_; clear CA; rintro e w1 ⟨rfl, h1⟩; have HB1 := hidI h1; clear h1)
    | (go_at_call 12; refine (CN2.out _ HB1.out).mono ?_; clear CN2 HB1; rintro e w2 ⟨p, rfl, h1⟩; have L0 := hidI h1; clear h1))
  rw [HN.out, HM.out]
  clear hx1 hy1 hvu hw0 HN HM hx2 hy2
  go_loopw [8, 9, 10, 11, 12, 13, 14] (fun u8 u9 _ _ _ _ _ wr => ∃ (i : Nat) (l : Bool) (s : SO.Sc), i ≤ acts.length ∧ i ≤ 100 ∧ u8 = .bool l ∧ u9 = .int .i64 (i : Int) ∧ SO.RI me n l s ∧ LW w p (6 + 60 * i) s (fun _ => True) wr) (fun _ u9 _ _ _ _ _ _ => acts.length - (intOf u9).toNat)
  case atStart => exact ⟨0, false, _, by omega, by omega, rfl, rfl, T0.out, L0.out⟩
  case round =>
    obtain ⟨i, l, s, hi, hi100, rfl, rfl, hR, hL⟩ := hrel
    clear T0 L0
    by_cases hlt : i < acts.length ∧ i < 100
    · obtain ⟨hlt1, hlt2⟩ := hlt
      obtain ⟨ax, hax⟩ : ∃ ax, acts[i]? = some ax := ⟨acts[i], List.getElem?_eq_getElem hlt1⟩
      obtain ⟨b0, off0, rfl, hb0, hrg0⟩ := (hac.bl hL.bl) i ax hax
      have HRX : Hid (wr.rangeAt b0 (off0 + i * 239) (lyX.f ax)) := hrg0
      obtain ⟨hk1, hk2, f, fa, fc, hF, hrs, hrm, hik, hifr, hisq, hind, hml⟩ := hai ax (List.mem_of_getElem? hax)
      have hXl : (lyX.f ax).length = 239 := lyX.len ax
      have hiX : (Try.prog.info? tAx).map (·.size) = some (lyX.f ax).length := by rw [hXl]; exact infoAx
      have HXO : Hid ((lyX.f ax).toArray.all (·.oneCell') = true) := all_one (lyX.one ax)
      have hXs : (lyX.f ax).toArray.size = 239 := by simp [hXl]
      have hFl : ax.fl.length = 237 := ax.len
      have hiF : (Try.prog.info? tFr).map (·.size) = some ax.fl.length := by rw [hFl]; exact infoFr
      have HBX : Hid (∀ U xb, U.heap[xb]? = some (.cells (lyX.f ax).toArray tAx (0, 0)) → BoxX xb ax.kind ax.n f.kind f.frm (.slice fa f.rum.length fc) ax.fl U) := fun U xb h => boxX hF h
      have HLB : Hid (∀ V, V = wr.alloc (.cells (lyX.f ax).toArray tAx) → LW w p (6 + 60 * i) s (fun W => W.heap[wr.heap.size]? = some (.cells (lyX.f ax).toArray tAx (0, 0))) V) := fun V hV => hL.box _ _ hV
      clear hrg0 hax hac hai
      by_cases hr20 : 20 < f.rum.length
      · have hr20' : (20 : Int) < (f.rum.length : Int) := by omega
        generalize lyX.f ax = XL at *
        go_wp2_with (first
          | (refine wpList_load_mid rfl tAx _ rfl b0 (off0 + i * 239) rfl XL _ HRX.out humX rfl hiX ?_; clear HRX)
          | (refine wpList_store_row rfl tAx _ _ rfl wr.heap.size XL.toArray rfl rfl tAx zAx (heap_alloc_new wr _) (by rw [hXs]; exact infoAx) (by rw [hXs, zAx_size]) HXO.out ?_; rw [World.setRow_alloc_new]; clear HXO; obtain ⟨V, hV⟩ : ∃ V, V = wr.alloc (.cells XL.toArray tAx) := ⟨_, rfl⟩; rw [← hV]; have hlb := HLB.out V hV; have hkr := (HBX.out V _ hlb.out).kr; have HB5 := hidI hlb.bl; clear hV hlb))
        go_ret
        exact ⟨rfl, HB5.out⟩
      · have hr20' : ¬ (20 : Int) < (f.rum.length : Int) := by omega
        have CALL1 : Hid (∀ (U : World) (xb : Nat) (XL : Array Value), LW w p (6 + 60 * i) s (fun W => W.heap[xb]? = some (Obj.cells XL tAx (0, 0))) U → Calls Try.prog 11 #[.pointer (some ⟨p, 0, none⟩)] U fun e w' => ∃ a c, e = .returned (.slice a n c) ∧ LW w p (6 + 60 * i) s (fun W => W.heap[xb]? = some (Obj.cells XL tAx (0, 0)) ∧ RS lyM W a (K.all s.f)) w') := fun U xb XL h => (All_ln h).mono fun e w' ⟨a, c, h1, h2⟩ => ⟨a, c, by rw [h1, (SO.all_dom hn6 hR.dom).1], h2⟩
        have HRI := hidI hR
        clear hL hR
        generalize hXLe : lyX.f ax = XL at *
        clear hXLe
        go_upto_block 2 with (first
          | (refine wpList_load_mid rfl tAx _ rfl b0 (off0 + i * 239) rfl XL _ HRX.out humX rfl hiX ?_; clear HRX)
          | (refine wpList_store_row rfl tAx _ _ rfl wr.heap.size XL.toArray rfl rfl tAx zAx (heap_alloc_new wr _) (by rw [hXs]; exact infoAx) (by rw [hXs, zAx_size]) HXO.out ?_; rw [World.setRow_alloc_new]; clear HXO; obtain ⟨V, hV⟩ : ∃ V, V = wr.alloc (.cells XL.toArray tAx) := ⟨_, rfl⟩; rw [← hV]; have hlb := HLB.out V hV; have hkr := (HBX.out V _ hlb.out).kr; have HLV := hidI hlb; clear hV hlb HLB)
          | (go_at_call 11; refine (CALL1.out _ _ _ HLV.out).mono ?_; clear CALL1 HLV hkr; rintro e w4 ⟨a1, c1, rfl, h4⟩; have bx4 := HBX.out w4 _ h4.out.1; have kk0 := bx4.k0; have kk1 := bx4.k1; have HRG := hidI bx4.rg; have HL4 := hidI h4; clear h4 bx4))
        generalize wr.heap.size = xb at *
        have CTK : Hid (Calls Try.prog 13 #[.pointer (some ⟨p, 0, none⟩), .int .i64 ax.n] w4 fun e w' => ∃ v, e = .returned v ∧ LW w p (6 + 60 * i + 50) (SO.tick s ax.n).1 (fun W => RS lyM W a1 (K.all s.f)) w') := (Tick_l HL4.out (by omega) ax.n hk2).mono fun e w' ⟨a, c, h1, h2⟩ => ⟨_, h1, (h2.weak fun V h => h.1.2).more (by omega)⟩
        have CHR : Hid (Calls Try.prog 14 #[.pointer (some ⟨p, 0, none⟩), .agg ax.fl.toArray] w4 fun e w' => ∃ a c, e = .returned (.slice a (SO.hear s f).2.length c) ∧ BoxX xb ax.kind ax.n f.kind f.frm (.slice fa f.rum.length fc) ax.fl w' ∧ LW w p (6 + 60 * i + 50) (SO.hear s f).1 (fun W => RS lyM W a1 (K.all s.f)) w') := (Hear_ly HL4.out (by omega) ax.fl f fa fc hF hifr hrs (fun m hm => ⟨(hrm m hm).1, (hrm m hm).2.1⟩) (by omega)).mono fun e w' ⟨a, c, h1, h2⟩ => ⟨a, c, h1, HBX.out _ _ h2.out.1, (h2.weak fun V h => h.2).more (by omega)⟩
        have CLV : Hid (Calls Try.prog 15 #[.pointer (some ⟨p, 0, none⟩)] w4 fun e w' => ∃ v, e = .returned v ∧ LW w p (6 + 60 * i + 50) (SO.leave s).1 (fun W => RS lyM W a1 (K.all s.f)) w') := (Leave_l HL4.out (by omega)).mono fun e w' ⟨a, c, h1, h2⟩ => ⟨_, h1, (h2.weak fun V h => h.2).more (by omega)⟩
        have CNO : Hid (LW w p (6 + 60 * i + 50) s (fun W => RS lyM W a1 (K.all s.f)) w4) := (HL4.out.weak fun V h => h.2).more (by omega)
        have HAN := hidI (fun hk => HRI.out.answers f hk)
        clear HL4 HBX hF hrs hrm hml hisq hind
        generalize hfk : f.kind = fk at *
        generalize hff : f.frm = frm at *
        go_cut [8, 12, 57] (fun s8 s12 s57 wx => ∃ (l' : Bool) (s' : SO.Sc), s8 = .bool l' ∧ SO.RI me n l' s' ∧ SO.Rise s.f s'.f ∧ LW w p (6 + 60 * i + 50) s' (fun W => RS lyM W a1 (K.all s.f)) wx)
        case first =>
          by_cases h1 : ax.kind = 1
          · have g1 : (ax.kind == 1) = true := by rw [h1]; rfl
            clear CHR CLV CNO HAN
            go_wp2_with (go_at_call 13; refine (CTK.out).mono ?_; clear CTK; rintro e w5 ⟨v5, rfl, h5⟩; have H5 := hidI h5; clear h5)
            go_meet
            exact ⟨l, _, rfl, (HRI.out.tick ax.n).1, (HRI.out.tick ax.n).2, H5.out⟩
          have g1 : (ax.kind == 1) = false := by simpa using h1
          by_cases h2 : ax.kind = 2
          · have g2 : (ax.kind == 2) = true := by rw [h2]; rfl
            clear CTK CLV CNO
            by_cases hfk1 : fk = 1
            · have e1 : (fk == 1) = true := by rw [hfk1]; rfl
              have hlen := HAN.out hfk1
              clear HAN
              cases l with
              | true =>
                have hz : (SO.hear s f).2.length = 0 := by rw [hlen]; simp []
                rw [hz] at CHR
                clear hz hlen
                go_wp2_with (first
                  | (refine wpList_load_mid rfl tFr _ rfl xb 2 rfl ax.fl _ HRG.out humF rfl hiF ?_; clear HRG)
                  | (go_at_call 14; refine (CHR.out).mono ?_; clear CHR; rintro e w5 ⟨a5, c5, rfl, bx5, h5⟩; have q2 := bx5.k2; have q3 := bx5.k3; have H5 := hidI h5; clear h5 bx5))
                go_meet
                exact ⟨_, _, rfl, (HRI.out.hear f).1, (HRI.out.hear f).2, H5.out⟩
              | false =>
                by_cases f1 : 1 ≤ frm
                · by_cases f2 : frm ≤ (n : Int)
                  · by_cases f3 : frm = me
                    · have e3 : (frm == me) = true := by rw [f3]; simp
                      have e4 : (frm != me) = false := by unfold bne; rw [e3]; rfl
                      clear f3
                      have hz : (SO.hear s f).2.length = 0 := by rw [hlen]; simp [e3]
                      rw [hz] at CHR
                      clear hz hlen
                      go_wp2_with (first
                        | (refine wpList_load_mid rfl tFr _ rfl xb 2 rfl ax.fl _ HRG.out humF rfl hiF ?_; clear HRG)
                        | (go_at_call 14; refine (CHR.out).mono ?_; clear CHR; rintro e w5 ⟨a5, c5, rfl, bx5, h5⟩; have q2 := bx5.k2; have q3 := bx5.k3; have H5 := hidI h5; clear h5 bx5))
                      go_meet
                      exact ⟨_, _, rfl, (HRI.out.hear f).1, (HRI.out.hear f).2, H5.out⟩
                    · have e3 : (frm == me) = false := by simpa using f3
                      have e4 : (frm != me) = true := by unfold bne; rw [e3]; rfl
                      have hz : (SO.hear s f).2.length = 1 := by rw [hlen]; simp [e3, f1, f2]
                      rw [hz] at CHR
                      clear hz hlen
                      go_wp2_with (first
                        | (refine wpList_load_mid rfl tFr _ rfl xb 2 rfl ax.fl _ HRG.out humF rfl hiF ?_; clear HRG)
                        | (go_at_call 14; refine (CHR.out).mono ?_; clear CHR; rintro e w5 ⟨a5, c5, rfl, bx5, h5⟩; have q2 := bx5.k2; have q3 := bx5.k3; have H5 := hidI h5; clear h5 bx5))
                      go_meet
                      exact ⟨_, _, rfl, (HRI.out.hear f).1, (HRI.out.hear f).2, H5.out⟩
                  · have f2' : ¬ frm ≤ (n : Int) := f2
                    have hz : (SO.hear s f).2.length = 0 := by rw [hlen]; simp [f2]
                    rw [hz] at CHR
                    clear hz hlen
                    go_wp2_with (first
                      | (refine wpList_load_mid rfl tFr _ rfl xb 2 rfl ax.fl _ HRG.out humF rfl hiF ?_; clear HRG)
                      | (go_at_call 14; refine (CHR.out).mono ?_; clear CHR; rintro e w5 ⟨a5, c5, rfl, bx5, h5⟩; have q2 := bx5.k2; have q3 := bx5.k3; have H5 := hidI h5; clear h5 bx5))
                    go_meet
                    exact ⟨_, _, rfl, (HRI.out.hear f).1, (HRI.out.hear f).2, H5.out⟩
                · have f1' : ¬ 1 ≤ frm := f1
                  have hz : (SO.hear s f).2.length = 0 := by rw [hlen]; simp [f1]
                  rw [hz] at CHR
                  clear hz hlen
                  go_wp2_with (first
                    | (refine wpList_load_mid rfl tFr _ rfl xb 2 rfl ax.fl _ HRG.out humF rfl hiF ?_; clear HRG)
                    | (go_at_call 14; refine (CHR.out).mono ?_; clear CHR; rintro e w5 ⟨a5, c5, rfl, bx5, h5⟩; have q2 := bx5.k2; have q3 := bx5.k3; have H5 := hidI h5; clear h5 bx5))
                  go_meet
                  exact ⟨_, _, rfl, (HRI.out.hear f).1, (HRI.out.hear f).2, H5.out⟩
            · have e1 : (fk == 1) = false := by simpa using hfk1
              clear HAN
              go_wp2_with (first
                | (refine wpList_load_mid rfl tFr _ rfl xb 2 rfl ax.fl _ HRG.out humF rfl hiF ?_; clear HRG)
                | (go_at_call 14; refine (CHR.out).mono ?_; clear CHR; rintro e w5 ⟨a5, c5, rfl, bx5, h5⟩; have q2 := bx5.k2; have q3 := bx5.k3; have H5 := hidI h5; clear h5 bx5))
              go_meet
              exact ⟨_, _, rfl, (HRI.out.hear f).1, (HRI.out.hear f).2, H5.out⟩
          have g2 : (ax.kind == 2) = false := by simpa using h2
          by_cases h3 : ax.kind = 3
          · have g3 : (ax.kind == 3) = true := by rw [h3]; rfl
            clear CTK CHR CNO HAN
            go_wp2_with (go_at_call 15; refine (CLV.out).mono ?_; clear CLV; rintro e w5 ⟨v5, rfl, h5⟩; have H5 := hidI h5; clear h5)
            go_meet
            exact ⟨true, _, rfl, HRI.out.leave.1, HRI.out.leave.2, H5.out⟩
          have g3 : (ax.kind == 3) = false := by simpa using h3
          · clear CTK CHR CLV HAN
            go_wp2_with fail
            go_meet
            exact ⟨l, s, rfl, HRI.out, SO.Rise.refl _, CNO.out⟩
        case rest =>
          obtain ⟨l', s', rfl, hR', hrise, hL'⟩ := hcut
          have hd0 := SO.all_dom hn6 HRI.out.dom
          have hd1 := SO.all_dom hn6 hR'.dom
          have CALL2 : Hid (Calls Try.prog 11 #[.pointer (some ⟨p, 0, none⟩)] wc fun e w' => ∃ a c, e = .returned (.slice a n c) ∧ LW w p (6 + 60 * i + 50) s' (fun W => RS lyM W a1 (K.all s.f) ∧ RS lyM W a (K.all s'.f)) w') := (All_ln hL').mono fun e w' ⟨a, c, h1, h2⟩ => ⟨a, c, by rw [h1, hd1.1], h2⟩
          have HRK : Hid (∀ k : Nat, k < n → ∃ m o : K.Me, (K.all s.f)[k]? = some o ∧ (K.all s'.f)[k]? = some m ∧ (m = o ∨ (K.above m o = true ∧ decide (m = o) = false))) := fun k hk => by
            rcases hrise ((k : Int) + 1) with ⟨h1, h2⟩ | ⟨o, m, h1, h2, h3⟩
            · obtain ⟨m, hm⟩ := (HRI.out.dom ((k : Int) + 1)).2 (by omega)
              rw [h1] at hm; cases hm
            · refine ⟨m, o, by rw [hd0.2 k hk]; exact h1, by rw [hd1.2 k hk]; exact h2, ?_⟩
              by_cases he : m = o
              · exact Or.inl he
              · rcases h3 with h3 | h3
                · exact Or.inl h3
                · exact Or.inr ⟨h3, decide_eq_false he⟩
          have HR' := hidI hR'
          clear hL' hR' hrise hd0 hd1 HRI kk0 kk1 CTK CHR CLV CNO HAN HRG
          go_wp2_with (go_at_call 11; refine (CALL2.out).mono ?_; clear CALL2; rintro e w6 ⟨a2, c2, rfl, h6⟩; have HL6 := hidI h6; clear h6)
          go_loopw [14] (fun u14 wr => ∃ k : Nat, k ≤ n ∧ u14 = .int .i64 (k : Int) ∧ LW w p (6 + 60 * i + 50) s' (fun W => RS lyM W a1 (K.all s.f) ∧ RS lyM W a2 (K.all s'.f)) wr) (fun u14 _ => n - (intOf u14).toNat)
          case atStart => exact ⟨0, by omega, rfl, HL6.out⟩
          case round =>
            obtain ⟨k, hk, rfl, HLr⟩ := hrel
            clear HL6
            by_cases hkn : k < n
            · obtain ⟨m, om, ho, hm, hmo⟩ := HRK.out k hkn
              obtain ⟨b1, off1, rfl, hb1, r1⟩ := HLr.out.1 k om ho
              obtain ⟨b2, off2, rfl, hb2, r2⟩ := HLr.out.2 k m hm
              have SK : Hid (∀ U, LW w p (6 + 60 * i + 50) s' (fun W => RS lyM W (some ⟨b1, off1, none⟩) (K.all s.f) ∧ RS lyM W (some ⟨b2, off2, none⟩) (K.all s'.f)) U → U.rangeAt b2 (off2 + k * 3) [.int .i64 m.1, .int .i64 m.2.1, .int .i64 m.2.2] ∧ U.rangeAt b1 (off1 + k * 3) [.int .i64 om.1, .int .i64 om.2.1, .int .i64 om.2.2]) := fun U h => by
                obtain ⟨b3, off3, e3, _, r3⟩ := h.out.1 k om ho
                obtain ⟨b4, off4, e4, _, r4⟩ := h.out.2 k m hm
                cases e3
                cases e4
                exact ⟨r4, r3⟩
              have CB0 : Hid (K.above m om = true → ∀ U, LW w p (6 + 60 * i + 50) s' (fun W => RS lyM W (some ⟨b1, off1, none⟩) (K.all s.f) ∧ RS lyM W (some ⟨b2, off2, none⟩) (K.all s'.f)) U → Calls Try.prog 16 #[.agg (meV m), .agg (meV om)] U fun e w' => e = .returned (.bool true) ∧ LW w p (6 + 60 * i + 50) s' (fun W => RS lyM W (some ⟨b1, off1, none⟩) (K.all s.f) ∧ RS lyM W (some ⟨b2, off2, none⟩) (K.all s'.f)) w') := fun ha U h => (Above_x m om U U (Bl.refl U)).mono fun e w' ⟨h1, h2⟩ => ⟨by rw [h1, ha], h.grow h2⟩
              have HEQ := hidI (fun W => eqMe m om W)
              clear r1 r2 ho hm HRK
              rcases hmo with hmo | ⟨hab, hne⟩
              · subst hmo
                have heq := HEQ.out
                rw [decide_eq_true rfl] at heq
                obtain ⟨m0, m1, m2⟩ := m
                simp only at SK heq
                clear CB0 HEQ
                go_wp2_with fail
                refine wp_region_noPanic ?_
                refine wp_region_held_drew (S := fun U => U.rangeAt b2 (off2 + k * 3) [.int .i64 m0, .int .i64 m1, .int .i64 m2] ∧ U.rangeAt b1 (off1 + k * 3) [.int .i64 m0, .int .i64 m1, .int .i64 m2]) (by kernel_rfl) ((SK.out _ (HLr.drewN 1))) (fun hHeld => ?_)
                refine wpAnyH_take (i := 0) rfl (by kernel_rfl) (by kernel_rfl) (by kernel_rfl) (fun _ _ _ h => h) (yi_move (by kernel_rfl) rfl rfl) (by assumption) ?_
                simp only [Act.put, List.getElem_toArray, List.getElem_cons_succ, List.getElem_cons_zero, List.setIfInBounds_toArray, List.set_cons_zero, List.set_cons_succ]
                refine wpAnyH_take (i := 1) rfl (by kernel_rfl) (by kernel_rfl) (by kernel_rfl) (fun _ _ _ h => h) (yi_move (by kernel_rfl) rfl rfl) (by assumption) ?_
                simp only [Act.put, List.getElem_toArray, List.getElem_cons_succ, List.getElem_cons_zero, List.setIfInBounds_toArray, List.set_cons_zero, List.set_cons_succ]
                refine wpAnyH_take (i := 2) (v := ?_) rfl (by kernel_rfl) (by kernel_rfl) (by kernel_rfl) (fun _ _ _ h => h) (Or.inl ⟨by kernel_rfl, ?_⟩) (by assumption) ?_
                rotate_left
                · (intro w hSw; (try dsimp only at hSw); go_simp; (try with_reducible rfl))
                simp only [Act.put, List.getElem_toArray, List.getElem_cons_succ, List.getElem_cons_zero, List.setIfInBounds_toArray, List.set_cons_zero, List.set_cons_succ]
                refine wpAnyH_take (i := 3) (v := .agg (List.toArray [.int .i64 m0, .int .i64 m1, .int .i64 m2])) rfl (by kernel_rfl) (by kernel_rfl) (by kernel_rfl) (fun _ _ _ h => h) (yieldsIf_load_mid (by kernel_rfl) _ (.tmp 121) (by kernel_rfl) b2 (off2 + k * 3) (by kernel_rfl) [.int .i64 m0, .int .i64 m1, .int .i64 m2] _ (fun W hW => hW.1) humM rfl infoMe) (by assumption) ?_
                simp only [Act.put, List.getElem_toArray, List.getElem_cons_succ, List.getElem_cons_zero, List.setIfInBounds_toArray, List.set_cons_zero, List.set_cons_succ]
                refine wpAnyH_take (i := 4) rfl (by kernel_rfl) (by kernel_rfl) (by kernel_rfl) (fun _ _ _ h => h) (yi_move (by kernel_rfl) rfl rfl) (by assumption) ?_
                simp only [Act.put, List.getElem_toArray, List.getElem_cons_succ, List.getElem_cons_zero, List.setIfInBounds_toArray, List.set_cons_zero, List.set_cons_succ]
                refine wpAnyH_take (i := 5) rfl (by kernel_rfl) (by kernel_rfl) (by kernel_rfl) (fun _ _ _ h => h) (yi_move (by kernel_rfl) rfl rfl) (by assumption) ?_
                simp only [Act.put, List.getElem_toArray, List.getElem_cons_succ, List.getElem_cons_zero, List.setIfInBounds_toArray, List.set_cons_zero, List.set_cons_succ]
                refine wpAnyH_take (i := 6) (v := ?_) rfl (by kernel_rfl) (by kernel_rfl) (by kernel_rfl) (fun _ _ _ h => h) (Or.inl ⟨by kernel_rfl, ?_⟩) (by assumption) ?_
                rotate_left
                · (intro w hSw; (try dsimp only at hSw); go_simp; (try with_reducible rfl))
                simp only [Act.put, List.getElem_toArray, List.getElem_cons_succ, List.getElem_cons_zero, List.setIfInBounds_toArray, List.set_cons_zero, List.set_cons_succ]
                refine wpAnyH_take (i := 7) (v := .agg (List.toArray [.int .i64 m0, .int .i64 m1, .int .i64 m2])) rfl (by kernel_rfl) (by kernel_rfl) (by kernel_rfl) (fun _ _ _ h => h) (yieldsIf_load_mid (by kernel_rfl) _ (.tmp 125) (by kernel_rfl) b1 (off1 + k * 3) (by kernel_rfl) [.int .i64 m0, .int .i64 m1, .int .i64 m2] _ (fun W hW => hW.2) humM rfl infoMe) (by assumption) ?_
                simp only [Act.put, List.getElem_toArray, List.getElem_cons_succ, List.getElem_cons_zero, List.setIfInBounds_toArray, List.set_cons_zero, List.set_cons_succ]
                refine wpAnyH_take (i := 8) (v := ?_) rfl (by kernel_rfl) (by kernel_rfl) (by kernel_rfl) (fun _ _ _ h => h) (Or.inl ⟨by kernel_rfl, ?_⟩) (by assumption) ?_
                rotate_left
                · (intro w hSw; (try dsimp only at hSw); go_simp; (try with_reducible rfl))
                simp only [Act.put, List.getElem_toArray, List.getElem_cons_succ, List.getElem_cons_zero, List.setIfInBounds_toArray, List.set_cons_zero, List.set_cons_succ]
                refine wpAnyH_take (i := 9) rfl (by kernel_rfl) (by kernel_rfl) (by kernel_rfl) (fun _ _ _ h => h) (yi_move (by kernel_rfl) rfl rfl) (by assumption) ?_
                simp only [Act.put, List.getElem_toArray, List.getElem_cons_succ, List.getElem_cons_zero, List.setIfInBounds_toArray, List.set_cons_zero, List.set_cons_succ]
                refine wpAnyH_take (i := 10) (v := undef) rfl (by kernel_rfl) (by kernel_rfl) (by kernel_rfl) (fun _ _ _ h => h) (Or.inr ⟨by kernel_rfl, rfl⟩) (by assumption) ?_
                simp only [Act.put, List.getElem_toArray, List.getElem_cons_succ, List.getElem_cons_zero, List.setIfInBounds_toArray, List.set_cons_zero, List.set_cons_succ]
                refine wpAnyH_take (i := 11) (v := undef) rfl (by kernel_rfl) (by kernel_rfl) (by kernel_rfl) (fun _ _ _ h => h) (Or.inr ⟨by kernel_rfl, rfl⟩) (by assumption) ?_
                simp only [Act.put, List.getElem_toArray, List.getElem_cons_succ, List.getElem_cons_zero, List.setIfInBounds_toArray, List.set_cons_zero, List.set_cons_succ]
                refine wpAnyH_take (i := 12) (v := undef) rfl (by kernel_rfl) (by kernel_rfl) (by kernel_rfl) (fun _ _ _ h => h) (Or.inr ⟨by kernel_rfl, rfl⟩) (by assumption) ?_
                simp only [Act.put, List.getElem_toArray, List.getElem_cons_succ, List.getElem_cons_zero, List.setIfInBounds_toArray, List.set_cons_zero, List.set_cons_succ]
                refine wpAnyH_take (i := 13) (v := undef) rfl (by kernel_rfl) (by kernel_rfl) (by kernel_rfl) (fun _ _ _ h => h) (Or.inr ⟨by kernel_rfl, rfl⟩) (by assumption) ?_
                simp only [Act.put, List.getElem_toArray, List.getElem_cons_succ, List.getElem_cons_zero, List.setIfInBounds_toArray, List.set_cons_zero, List.set_cons_succ]
                refine wpAnyH_take (i := 14) (v := undef) rfl (by kernel_rfl) (by kernel_rfl) (by kernel_rfl) (fun _ _ _ h => h) (Or.inr ⟨by kernel_rfl, rfl⟩) (by assumption) ?_
                simp only [Act.put, List.getElem_toArray, List.getElem_cons_succ, List.getElem_cons_zero, List.setIfInBounds_toArray, List.set_cons_zero, List.set_cons_succ]
                refine wpAnyH_take (i := 15) (v := undef) rfl (by kernel_rfl) (by kernel_rfl) (by kernel_rfl) (fun _ _ _ h => h) (Or.inr ⟨by kernel_rfl, rfl⟩) (by assumption) ?_
                simp only [Act.put, List.getElem_toArray, List.getElem_cons_succ, List.getElem_cons_zero, List.setIfInBounds_toArray, List.set_cons_zero, List.set_cons_succ]
                refine wpAnyH_take (i := 16) (v := undef) rfl (by kernel_rfl) (by kernel_rfl) (by kernel_rfl) (fun _ _ _ h => h) (Or.inr ⟨by kernel_rfl, rfl⟩) (by assumption) ?_
                simp only [Act.put, List.getElem_toArray, List.getElem_cons_succ, List.getElem_cons_zero, List.setIfInBounds_toArray, List.set_cons_zero, List.set_cons_succ]
                refine wpAnyH_take (i := 17) (v := undef) rfl (by kernel_rfl) (by kernel_rfl) (by kernel_rfl) (fun _ _ _ h => h) (Or.inr ⟨by kernel_rfl, rfl⟩) (by assumption) ?_
                simp only [Act.put, List.getElem_toArray, List.getElem_cons_succ, List.getElem_cons_zero, List.setIfInBounds_toArray, List.set_cons_zero, List.set_cons_succ]
                refine wpAnyH_take (i := 18) (v := undef) rfl (by kernel_rfl) (by kernel_rfl) (by kernel_rfl) (fun _ _ _ h => h) (Or.inr ⟨by kernel_rfl, rfl⟩) (by assumption) ?_
                simp only [Act.put, List.getElem_toArray, List.getElem_cons_succ, List.getElem_cons_zero, List.setIfInBounds_toArray, List.set_cons_zero, List.set_cons_succ]
                refine wpAnyH_take (i := 19) (v := undef) rfl (by kernel_rfl) (by kernel_rfl) (by kernel_rfl) (fun _ _ _ h => h) (Or.inr ⟨by kernel_rfl, rfl⟩) (by assumption) ?_
                simp only [Act.put, List.getElem_toArray, List.getElem_cons_succ, List.getElem_cons_zero, List.setIfInBounds_toArray, List.set_cons_zero, List.set_cons_succ]
                refine wpAnyH_take (i := 20) (v := ?_) rfl (by kernel_rfl) (by kernel_rfl) (by kernel_rfl) (fun _ _ _ h => h) (Or.inl ⟨by kernel_rfl, ?_⟩) (by assumption) ?_
                rotate_left
                · (intro w hSw; (try dsimp only at hSw); go_simp; (try with_reducible rfl))
                simp only [Act.put, List.getElem_toArray, List.getElem_cons_succ, List.getElem_cons_zero, List.setIfInBounds_toArray, List.set_cons_zero, List.set_cons_succ]
                refine wpAnyH_done (by kernel_rfl) ?_ _
                refine NoPanic.normal ?_
                have HLE := hidI (HLr.drewN 1)
                go_wp2_with fail
                go_roundw
                case rel => exact ⟨k + 1, by omega, by go_num, HLE.out⟩
                case measure => simp [intOf]; omega
              · have heq := HEQ.out
                rw [hne] at heq
                have CB := hidI (CB0.out hab)
                obtain ⟨m0, m1, m2⟩ := m
                obtain ⟨o0, o1, o2⟩ := om
                unfold meV at CB
                simp only at SK heq CB
                clear CB0 HEQ hab hne
                go_wp2_with fail
                refine wp_region_noPanic ?_
                refine wp_region_held_drew (S := fun U => U.rangeAt b2 (off2 + k * 3) [.int .i64 m0, .int .i64 m1, .int .i64 m2] ∧ U.rangeAt b1 (off1 + k * 3) [.int .i64 o0, .int .i64 o1, .int .i64 o2]) (by kernel_rfl) ((SK.out _ (HLr.drewN 1))) (fun hHeld => ?_)
                refine wpAnyH_take (i := 0) rfl (by kernel_rfl) (by kernel_rfl) (by kernel_rfl) (fun _ _ _ h => h) (yi_move (by kernel_rfl) rfl rfl) (by assumption) ?_
                simp only [Act.put, List.getElem_toArray, List.getElem_cons_succ, List.getElem_cons_zero, List.setIfInBounds_toArray, List.set_cons_zero, List.set_cons_succ]
                refine wpAnyH_take (i := 1) rfl (by kernel_rfl) (by kernel_rfl) (by kernel_rfl) (fun _ _ _ h => h) (yi_move (by kernel_rfl) rfl rfl) (by assumption) ?_
                simp only [Act.put, List.getElem_toArray, List.getElem_cons_succ, List.getElem_cons_zero, List.setIfInBounds_toArray, List.set_cons_zero, List.set_cons_succ]
                refine wpAnyH_take (i := 2) (v := ?_) rfl (by kernel_rfl) (by kernel_rfl) (by kernel_rfl) (fun _ _ _ h => h) (Or.inl ⟨by kernel_rfl, ?_⟩) (by assumption) ?_
                rotate_left
                · (intro w hSw; (try dsimp only at hSw); go_simp; (try with_reducible rfl))
                simp only [Act.put, List.getElem_toArray, List.getElem_cons_succ, List.getElem_cons_zero, List.setIfInBounds_toArray, List.set_cons_zero, List.set_cons_succ]
                refine wpAnyH_take (i := 3) (v := .agg (List.toArray [.int .i64 m0, .int .i64 m1, .int .i64 m2])) rfl (by kernel_rfl) (by kernel_rfl) (by kernel_rfl) (fun _ _ _ h => h) (yieldsIf_load_mid (by kernel_rfl) _ (.tmp 121) (by kernel_rfl) b2 (off2 + k * 3) (by kernel_rfl) [.int .i64 m0, .int .i64 m1, .int .i64 m2] _ (fun W hW => hW.1) humM rfl infoMe) (by assumption) ?_
                simp only [Act.put, List.getElem_toArray, List.getElem_cons_succ, List.getElem_cons_zero, List.setIfInBounds_toArray, List.set_cons_zero, List.set_cons_succ]
                refine wpAnyH_take (i := 4) rfl (by kernel_rfl) (by kernel_rfl) (by kernel_rfl) (fun _ _ _ h => h) (yi_move (by kernel_rfl) rfl rfl) (by assumption) ?_
                simp only [Act.put, List.getElem_toArray, List.getElem_cons_succ, List.getElem_cons_zero, List.setIfInBounds_toArray, List.set_cons_zero, List.set_cons_succ]
                refine wpAnyH_take (i := 5) rfl (by kernel_rfl) (by kernel_rfl) (by kernel_rfl) (fun _ _ _ h => h) (yi_move (by kernel_rfl) rfl rfl) (by assumption) ?_
                simp only [Act.put, List.getElem_toArray, List.getElem_cons_succ, List.getElem_cons_zero, List.setIfInBounds_toArray, List.set_cons_zero, List.set_cons_succ]
                refine wpAnyH_take (i := 6) (v := ?_) rfl (by kernel_rfl) (by kernel_rfl) (by kernel_rfl) (fun _ _ _ h => h) (Or.inl ⟨by kernel_rfl, ?_⟩) (by assumption) ?_
                rotate_left
                · (intro w hSw; (try dsimp only at hSw); go_simp; (try with_reducible rfl))
                simp only [Act.put, List.getElem_toArray, List.getElem_cons_succ, List.getElem_cons_zero, List.setIfInBounds_toArray, List.set_cons_zero, List.set_cons_succ]
                refine wpAnyH_take (i := 7) (v := .agg (List.toArray [.int .i64 o0, .int .i64 o1, .int .i64 o2])) rfl (by kernel_rfl) (by kernel_rfl) (by kernel_rfl) (fun _ _ _ h => h) (yieldsIf_load_mid (by kernel_rfl) _ (.tmp 125) (by kernel_rfl) b1 (off1 + k * 3) (by kernel_rfl) [.int .i64 o0, .int .i64 o1, .int .i64 o2] _ (fun W hW => hW.2) humM rfl infoMe) (by assumption) ?_
                simp only [Act.put, List.getElem_toArray, List.getElem_cons_succ, List.getElem_cons_zero, List.setIfInBounds_toArray, List.set_cons_zero, List.set_cons_succ]
                refine wpAnyH_take (i := 8) (v := ?_) rfl (by kernel_rfl) (by kernel_rfl) (by kernel_rfl) (fun _ _ _ h => h) (Or.inl ⟨by kernel_rfl, ?_⟩) (by assumption) ?_
                rotate_left
                · (intro w hSw; (try dsimp only at hSw); go_simp; (try with_reducible rfl))
                simp only [Act.put, List.getElem_toArray, List.getElem_cons_succ, List.getElem_cons_zero, List.setIfInBounds_toArray, List.set_cons_zero, List.set_cons_succ]
                refine wpAnyH_take (i := 9) rfl (by kernel_rfl) (by kernel_rfl) (by kernel_rfl) (fun _ _ _ h => h) (yi_move (by kernel_rfl) rfl rfl) (by assumption) ?_
                simp only [Act.put, List.getElem_toArray, List.getElem_cons_succ, List.getElem_cons_zero, List.setIfInBounds_toArray, List.set_cons_zero, List.set_cons_succ]
                refine wpAnyH_take (i := 10) rfl (by kernel_rfl) (by kernel_rfl) (by kernel_rfl) (fun _ _ _ h => h) (yi_move (by kernel_rfl) rfl rfl) (by assumption) ?_
                simp only [Act.put, List.getElem_toArray, List.getElem_cons_succ, List.getElem_cons_zero, List.setIfInBounds_toArray, List.set_cons_zero, List.set_cons_succ]
                refine wpAnyH_take (i := 11) rfl (by kernel_rfl) (by kernel_rfl) (by kernel_rfl) (fun _ _ _ h => h) (yi_move (by kernel_rfl) rfl rfl) (by assumption) ?_
                simp only [Act.put, List.getElem_toArray, List.getElem_cons_succ, List.getElem_cons_zero, List.setIfInBounds_toArray, List.set_cons_zero, List.set_cons_succ]
                refine wpAnyH_take (i := 12) (v := ?_) rfl (by kernel_rfl) (by kernel_rfl) (by kernel_rfl) (fun _ _ _ h => h) (Or.inl ⟨by kernel_rfl, ?_⟩) (by assumption) ?_
                rotate_left
                · (intro w hSw; (try dsimp only at hSw); go_simp; (try with_reducible rfl))
                simp only [Act.put, List.getElem_toArray, List.getElem_cons_succ, List.getElem_cons_zero, List.setIfInBounds_toArray, List.set_cons_zero, List.set_cons_succ]
                refine wpAnyH_take (i := 13) (v := .agg (List.toArray [.int .i64 m0, .int .i64 m1, .int .i64 m2])) rfl (by kernel_rfl) (by kernel_rfl) (by kernel_rfl) (fun _ _ _ h => h) (yieldsIf_load_mid (by kernel_rfl) _ (.tmp 131) (by kernel_rfl) b2 (off2 + k * 3) (by kernel_rfl) [.int .i64 m0, .int .i64 m1, .int .i64 m2] _ (fun W hW => hW.1) humM rfl infoMe) (by assumption) ?_
                simp only [Act.put, List.getElem_toArray, List.getElem_cons_succ, List.getElem_cons_zero, List.setIfInBounds_toArray, List.set_cons_zero, List.set_cons_succ]
                refine wpAnyH_take (i := 14) rfl (by kernel_rfl) (by kernel_rfl) (by kernel_rfl) (fun _ _ _ h => h) (yi_move (by kernel_rfl) rfl rfl) (by assumption) ?_
                simp only [Act.put, List.getElem_toArray, List.getElem_cons_succ, List.getElem_cons_zero, List.setIfInBounds_toArray, List.set_cons_zero, List.set_cons_succ]
                refine wpAnyH_take (i := 15) rfl (by kernel_rfl) (by kernel_rfl) (by kernel_rfl) (fun _ _ _ h => h) (yi_move (by kernel_rfl) rfl rfl) (by assumption) ?_
                simp only [Act.put, List.getElem_toArray, List.getElem_cons_succ, List.getElem_cons_zero, List.setIfInBounds_toArray, List.set_cons_zero, List.set_cons_succ]
                refine wpAnyH_take (i := 16) (v := ?_) rfl (by kernel_rfl) (by kernel_rfl) (by kernel_rfl) (fun _ _ _ h => h) (Or.inl ⟨by kernel_rfl, ?_⟩) (by assumption) ?_
                rotate_left
                · (intro w hSw; (try dsimp only at hSw); go_simp; (try with_reducible rfl))
                simp only [Act.put, List.getElem_toArray, List.getElem_cons_succ, List.getElem_cons_zero, List.setIfInBounds_toArray, List.set_cons_zero, List.set_cons_succ]
                refine wpAnyH_take (i := 17) (v := .agg (List.toArray [.int .i64 o0, .int .i64 o1, .int .i64 o2])) rfl (by kernel_rfl) (by kernel_rfl) (by kernel_rfl) (fun _ _ _ h => h) (yieldsIf_load_mid (by kernel_rfl) _ (.tmp 135) (by kernel_rfl) b1 (off1 + k * 3) (by kernel_rfl) [.int .i64 o0, .int .i64 o1, .int .i64 o2] _ (fun W hW => hW.2) humM rfl infoMe) (by assumption) ?_
                simp only [Act.put, List.getElem_toArray, List.getElem_cons_succ, List.getElem_cons_zero, List.setIfInBounds_toArray, List.set_cons_zero, List.set_cons_succ]
                refine wpAnyH_ready (rs := [18]) (by kernel_rfl) (by simp) ?_
                refine AllReadyH.cons (o := _) rfl (fun K hK => ?_) AllReadyH.nil
                go_simp
                go_at_call 16; refine (CB.out _ (HLr.drewN 1)).mono ?_; rintro e V19 ⟨rfl, HB19⟩
                refine hK.out _ _ ((SK.out _ HB19)) (fun hHeld => ?_)
                clear hK K
                (try simp only [Act.put, List.getElem_toArray, List.getElem_cons_succ, List.getElem_cons_zero, List.setIfInBounds_toArray, List.set_cons_zero, List.set_cons_succ])
                refine wpAnyH_take (i := 19) (v := ?_) rfl (by kernel_rfl) (by kernel_rfl) (by kernel_rfl) (fun _ _ _ h => h) (Or.inl ⟨by kernel_rfl, ?_⟩) (by assumption) ?_
                rotate_left
                · (intro w hSw; (try dsimp only at hSw); go_simp; (try with_reducible rfl))
                simp only [Act.put, List.getElem_toArray, List.getElem_cons_succ, List.getElem_cons_zero, List.setIfInBounds_toArray, List.set_cons_zero, List.set_cons_succ]
                refine wpAnyH_take (i := 20) (v := ?_) rfl (by kernel_rfl) (by kernel_rfl) (by kernel_rfl) (fun _ _ _ h => h) (Or.inl ⟨by kernel_rfl, ?_⟩) (by assumption) ?_
                rotate_left
                · (intro w hSw; (try dsimp only at hSw); go_simp; (try with_reducible rfl))
                simp only [Act.put, List.getElem_toArray, List.getElem_cons_succ, List.getElem_cons_zero, List.setIfInBounds_toArray, List.set_cons_zero, List.set_cons_succ]
                refine wpAnyH_done (by kernel_rfl) ?_ _
                refine NoPanic.normal ?_
                have HLE := hidI HB19
                go_wp2_with fail
                go_roundw
                case rel => exact ⟨k + 1, by omega, by go_num, HLE.out⟩
                case measure => simp [intOf]; omega
            · obtain rfl : k = n := by omega
              have CM : Hid (∀ U, LW w p (6 + 60 * i + 50) s' (fun W => RS lyM W a1 (K.all s.f) ∧ RS lyM W a2 (K.all s'.f)) U → Calls Try.prog 17 #[.pointer (some ⟨p, 0, none⟩)] U fun e w' => e = .returned (.agg (meV (SO.of s' me))) ∧ LW w p (6 + 60 * i + 50) s' (fun W => RS lyM W a1 (K.all s.f) ∧ RS lyM W a2 (K.all s'.f)) w') := fun U h => (Me_l h).mono fun e w' ⟨h1, h2⟩ => ⟨by rw [h1, HR'.out.hme], h2⟩
              have hst := HR'.out.st
              have HFN : Hid (∀ U, LW w p (6 + 60 * i + 50) s' (fun W => RS lyM W a1 (K.all s.f) ∧ RS lyM W a2 (K.all s'.f)) U → LW w p (6 + 60 * (i + 1)) s' (fun _ => True) U) := fun U h => (h.weak fun _ _ => trivial).more (by omega)
              have HLq := hidI HLr
              clear HLr HRK
              generalize SO.of s' me = mm at *
              obtain ⟨q0, q1, q2⟩ := mm
              unfold meV at CM
              simp only at CM hst
              have hfl : ∀ W, (Instr.field 38 (.agg #[.int .i64 q0, .int .i64 q1, .int .i64 q2]) 2).run Try.prog W = .ok (.int .i64 q2) W := fun W => by kernel_rfl
              cases l' with
              | true =>
                rw [if_pos rfl] at hst
                subst hst
                go_wp2_with (go_at_call 17; refine (CM.out _ HLq.out).mono ?_; clear HLq; rintro e w9 ⟨rfl, h9⟩; have HLq := hidI h9; clear h9)
                go_roundw
                case rel => exact ⟨i + 1, true, s', by omega, by omega, rfl, by go_num, HR'.out, HFN.out _ HLq.out⟩
                case measure => simp [intOf]; omega
              | false =>
                rw [if_neg (by decide)] at hst
                subst hst
                go_wp2_with (go_at_call 17; refine (CM.out _ HLq.out).mono ?_; clear HLq; rintro e w9 ⟨rfl, h9⟩; have HLq := hidI h9; clear h9)
                go_roundw
                case rel => exact ⟨i + 1, false, s', by omega, by omega, rfl, by go_num, HR'.out, HFN.out _ HLq.out⟩
                case measure => simp [intOf]; omega
    · have HB5 := hidI hL.bl
      have hil : ¬ ((i : Int) < (acts.length : Int)) ∨ ¬ ((i : Int) < 100) := by omega
      have CMN : Hid (∀ W, Calls Try.prog 17 #[.pointer none] W fun e w' => e = .returned (.agg #[.int .i64 0, .int .i64 0, .int .i64 0]) ∧ Bl W w') := fun W => Me_nil W
      clear hL hR hac hai hlt humM humF humX
      by_cases hq : (i : Int) < (acts.length : Int)
      · have hq2 : ¬ ((i : Int) < 100) := by omega
        clear hil
        go_wp2_with (first
          | (go_at_call 13; refine (Tick_nil 0 _).mono ?_; rintro e w5 ⟨rfl, hw⟩; rw [hw]; clear hw w5)
          | (go_at_call 14; refine (Hear_nil _ ⟨_, rfl⟩ _).mono ?_; rintro e w6 ⟨rfl, h6⟩; have HB6 := hidI (HB5.out.step h6); clear h6 HB5)
          | (go_at_call 15; refine (Leave_nil _).mono ?_; rintro e w7 ⟨rfl, hw⟩; rw [hw]; clear hw w7)
          | (refine wl_bs1W (by kernel_rfl) 33 tSn _ rfl zSn.toList 238 408 (.agg zS) undSs hzS1 (by simp [zSn_size]) (by omega) (by omega) (by kernel_rfl) ?_)
          | (go_at_call 18; refine (Tell_nil _ _).mono ?_; rintro e w8 ⟨rfl, hw⟩; rw [hw]; clear hw w8)
          | (go_at_call 11; refine (All_nil _).mono ?_; rintro e w9 ⟨rfl, hw⟩; rw [hw]; clear hw w9)
          | (go_at_call 19; refine (Present_nil _).mono ?_; rintro e w10 ⟨rfl, hw⟩; rw [hw]; clear hw w10)
          | (go_at_call 17; refine (CMN.out _).mono ?_; rintro e w11 ⟨rfl, h11⟩; have HB11 := hidI ((HB6.out.alloc _).step h11); clear h11))
        go_ret
        exact ⟨rfl, HB11.out⟩
      · clear hil
        go_wp2_with (first
          | (go_at_call 13; refine (Tick_nil 0 _).mono ?_; rintro e w5 ⟨rfl, hw⟩; rw [hw]; clear hw w5)
          | (go_at_call 14; refine (Hear_nil _ ⟨_, rfl⟩ _).mono ?_; rintro e w6 ⟨rfl, h6⟩; have HB6 := hidI (HB5.out.step h6); clear h6 HB5)
          | (go_at_call 15; refine (Leave_nil _).mono ?_; rintro e w7 ⟨rfl, hw⟩; rw [hw]; clear hw w7)
          | (refine wl_bs1W (by kernel_rfl) 33 tSn _ rfl zSn.toList 238 408 (.agg zS) undSs hzS1 (by simp [zSn_size]) (by omega) (by omega) (by kernel_rfl) ?_)
          | (go_at_call 18; refine (Tell_nil _ _).mono ?_; rintro e w8 ⟨rfl, hw⟩; rw [hw]; clear hw w8)
          | (go_at_call 11; refine (All_nil _).mono ?_; rintro e w9 ⟨rfl, hw⟩; rw [hw]; clear hw w9)
          | (go_at_call 19; refine (Present_nil _).mono ?_; rintro e w10 ⟨rfl, hw⟩; rw [hw]; clear hw w10)
          | (go_at_call 17; refine (CMN.out _).mono ?_; rintro e w11 ⟨rfl, h11⟩; have HB11 := hidI ((HB6.out.alloc _).step h11); clear h11))
        go_ret
        exact ⟨rfl, HB11.out⟩
end Go.Proofs.Ytfpjknfgiciokaa
