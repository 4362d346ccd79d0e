/- askHelpers. -/
import Derived.Test.YtebmgajijjhinaaSo13
import Derived.Test.YtebmgajijjhinaaSo11
namespace Go.Proofs.Ytebmgajijjhinaa
open Go.RowKit Go.Maps
set_option linter.unusedVariables false
set_option linter.unusedSimpArgs false

theorem yi_buildS {P : Program} {ops : Array Oper} {S : World → Prop} {o : Oper} {a : Act} {t : TypeId} {ps : Array (Nat × Operand)} {v : Value} (hw : Region.wanted o (yielded ops a.tmps) = true) (ho : o.op = .build t ps) (parts : Array (Nat × Value)) (hp : ps.toList.map (fun p => (p.1, a.eval p.2)) = parts.toList) (hr : ∀ w, (Instr.build t parts).run P w = .ok v w) : YieldsIf P ops S o v a :=
  .inl ⟨hw, fun w _ => by
    have hp' : (ps.map fun (i, x) => (i, a.eval x)) = parts := by rw [← Array.toList_inj, Array.toList_map]; exact hp
    unfold execOp; simp only [ho, hp', Sem.run_bind, hr, Result.andThen_ok, Sem.run_pure]⟩
theorem stepo_bs1 {ops : Array Oper} {o : Oper} {a : Act} {w : World} {K : Act → World → Prop} {Q : Exit → Act → World → Prop} {E : Prop} (hg : o.guard = none) (TS T : TypeId) (x : Operand) (ho : o.op = .buildSlice TS 1 #[(0, x)]) (L : List Value) (n bytes : Nat) (z : Value) (hu : Try.prog.underlying TS = some (.slice T)) (hi : (Try.prog.info? T).map (fun i => (i.zero, i.size, i.bytes)) = some (some z, n, bytes)) (hn : L.length = n) (h0 : 0 < n) (h1 : n ≤ 16777216) (hx : a.eval x = .agg L.toArray)
    (h : K (a.put o.dst (.slice (some ⟨w.heap.size, 0, none⟩) 1 1)) (w.alloc (.cells L.toArray T))) : if Region.wanted o (yielded ops a.tmps) = true then Oper.wp Try.prog o a w K Q else E := by
  have hw : Region.wanted o (yielded ops a.tmps) = true := by simp [Region.wanted, hg]
  rw [if_pos hw]
  obtain ⟨i, hi0, hz, hs, hb⟩ := info_partsT hi
  refine wp_buildSlice TS T 1 #[(0, x)] ho L.toArray i z hu hi0 hz (by rw [hs]; omega) (by rw [hs]; omega) ?_ h
  have hp : ((#[(0, x)] : Array (Nat × Operand)).map fun (i, x) => (i, a.eval x)).toList = [(0, .agg L.toArray)] := by simp [hx]
  rw [hp, hs]
  exact fill_all _ _ _ L rfl (by simp [hn]) (by simp [hn])
theorem stepo_app1X {α : Type} (E : Lay α) {ops : Array Oper} {o : Oper} {a : Act} {W U : World} {K : Act → World → Prop} {Q : Exit → Act → World → Prop} {El : Prop} (T TS : TypeId) (z : Value) (bytes : Nat)
    (hund : Try.prog.underlying TS = some (.slice T)) (hinfo : (Try.prog.info? T).map (fun i => (i.zero, i.size, i.bytes)) = some (some z, E.k, bytes)) (hzc : z.cells.size = E.k) (hby : bytes ≤ 4096)
    (hgd : o.guard = none) (s x : Operand) (ho : o.op = .call { callee := .builtin .append, args := #[s, x], argTypes := #[TS, TS] }) (B n : Nat) (ks : List α) (hnk : n = ks.length) (t : α) (v : Value) (hs : a.eval s = v) (hB : B ≤ W.heap.size) (hown : W.ownsRow B T E.k v n (flG E ks))
    (N : Nat) (hN : N = W.heap.size) (hx : a.eval x = .slice (some ⟨N, 0, none⟩) 1 1) (hn : n ≤ 90000)
    (h : ∀ g c' w', w'.ownsRow B T E.k (.slice (some ⟨g, 0, none⟩) (n + 1) c') (n + 1) (flG E (ks ++ [t])) → W.grownBy w' v.ownBlock → (v.ownBlock = some g ∨ W.heap.size ≤ g) → g < w'.heap.size → K (a.put o.dst (.slice (some ⟨g, 0, none⟩) (n + 1) c')) w') (C : Array Value) (hC : C = (E.f t).toArray) (hU : U = W.alloc (.cells C T)) : if Region.wanted o (yielded ops a.tmps) = true then Oper.wp Try.prog o a U K Q else El := by
  subst hnk hU hC hN
  obtain ⟨i0, hi0, hz0, hz1, hz2⟩ := info_partsT hinfo
  have hsz : B ≤ (W.alloc (.cells (E.f t).toArray T)).heap.size := by simp; omega
  have hk := E.pos
  refine step_append_lies _ hgd s x TS ho B T i0 z E.k bytes hund hi0 hz0 hz1 hz2 hzc ?_ v ks.length (flG E ks) hs (ownsRow_bl hown ((Bl.refl W).alloc _)) ⟨W.heap.size, 0, none⟩ 1 1 (E.f t) hx (by rw [E.len]; omega) (fun j u hu => ?_) (E.one t) (by omega) (by unfold maxLen; omega) ?_ hsz _ rfl (fun g cap w' h1 h2 h3 h4 => ?_)
  · omega
  · rw [Addr.add_mid, Lib.cell_of_heap (heap_alloc_new W _), Nat.zero_add]
    simpa using hu
  · have : (ks.length + 1) * bytes ≤ 90001 * 4096 := Nat.mul_le_mul (by omega) hby
    omega
  · refine h _ _ w' (by rw [flG_app]; simpa [flG] using h1) ((World.grownBy_alloc W _ _).trans h2) ?_ h4
    rcases h3 with h3 | h3
    · exact Or.inl h3
    · right; simp at h3; omega
def hlp (s : SO.Sc) (l : List Int) : SO.Sc := { s with ph := l }
/-- the helpers are laid -/
theorem S0.help {w W : World} {p : Nat} {P : Pl} {B B' : Nat → Prop} {N : Nat} {s : SO.Sc} (x : S0 w p P B N s W) (ha : Option Addr) (hc : Nat) (L : List Int) (hr : RT lyI tIn W ha L) (hl : L.length ≤ 6) (hB : ∀ k, B k → B' k) (Ba : ∀ g off, ha = some ⟨g, off, none⟩ → B' g) (Bo : ∀ k, B' k → B k ∨ (w.heap.size ≤ k ∧ k < W.heap.size)) :
    S0 w p { P with ha := ha, hc := hc } B' N (hlp s L) (W.setCell ⟨p, 16, none⟩ (.slice ha L.length hc)) := by
  have nm := x.num
  exact x.put (P' := { P with ha := ha, hc := hc }) (s' := hlp s L) (Nat.le_refl N) (Of1.of_grown (grown_setCell W p 16 _)) (by rw [heap_setCell_own x.row]; rfl) rfl rfl rfl rfl rfl rfl ⟨nm.n1, nm.n2, nm.q1, nm.q2, nm.s1, nm.s2, nm.m1, nm.m2, nm.m3, nm.p1, nm.p2, nm.ok, nm.el, nm.ll, nm.l1, hl⟩ x.ln hr x.er hB (fun g off e => hB g (x.Bn g off e)) Ba (fun g e => hB g (x.Be g e)) Bo x.lcp
theorem helpers_len (s : SO.Sc) : (SO.helpers s).length ≤ 6 := by unfold SO.helpers; rw [List.length_take]; omega
set_option maxRecDepth 8000 in
set_option maxHeartbeats 4000000 in
theorem askHelpers_x {w W : World} {p : Nat} {P : Pl} {B : Nat → Prop} {N : Nat} {s : SO.Sc} (x : S0 w p P B N s W) :
    Calls Try.prog 14 #[.pointer (some ⟨p, 0, none⟩)] W fun e w' => Ans w p B W N (SO.askH s).1 (SO.askH s).2 e w' := by
  have C1 : Hid (Calls Try.prog 34 #[.pointer (some ⟨p, 14, none⟩)] W fun e w' => e = .returned (.bool (SO.isOpen s)) ∧ w' = W) := isOpen_x x
  have HA : Hid (SO.askH s = if SO.isOpen s = true then (SO.tellS { s with ph := SO.helpers s } ((SO.helpers s).map (fun h => SO.askF h s.ps s.pn)), SO.tellL { s with ph := SO.helpers s } ((SO.helpers s).map (fun h => SO.askF h s.ps s.pn))) else (s, [])) := rfl
  cases ho : SO.isOpen s with
  | false =>
    rw [ho] at C1 HA
    have HE : Hid ((SO.askH s).1 = s ∧ (SO.askH s).2 = []) := by show _ ∧ _; rw [HA.out]; exact ⟨rfl, rfl⟩
    rw [HE.out.1, HE.out.2]
    have HX : Hid (SX w p B W N s W) := SX.of x (OS.refl B W)
    clear x HA HE ho
    go_enter Try.func14, Try.ntmps14
    go_wp2_with (go_at_call 34; refine (C1.out).mono ?_; clear C1; rintro e w1 ⟨rfl, hw⟩; rw [hw]; clear hw w1)
    go_ret
    exact ans_none HX.out
  | true =>
    rw [ho] at C1 HA
    have HE : Hid ((SO.askH s).1 = SO.tellS (hlp s (SO.helpers s)) ((SO.helpers s).map (fun h => SO.askF h s.ps s.pn)) ∧ (SO.askH s).2 = SO.tellL (hlp s (SO.helpers s)) ((SO.helpers s).map (fun h => SO.askF h s.ps s.pn))) := by show _ ∧ _; rw [HA.out]; exact ⟨rfl, rfl⟩
    rw [HE.out.1, HE.out.2]
    have hhl := helpers_len s
    have C2 : Hid (Calls Try.prog 35 #[.pointer (some ⟨p, 0, none⟩)] W fun e w' => ∃ a c, e = .returned (.slice a (SO.helpers s).length c) ∧ w'.frozen? ⟨p, 16, none⟩ = false ∧ (∃ u, w'.cell? ⟨p, 16, none⟩ = some u) ∧ Hid (∀ U, U = w'.setCell ⟨p, 16, none⟩ (.slice a (SO.helpers s).length c) → (∀ V, Bl U V → V.cell? ⟨p, 15, none⟩ = some (.int .i64 s.ps) ∧ V.cell? ⟨p, 14, none⟩ = some (.int .i64 s.pn)) ∧ U.cell? ⟨p, 16, none⟩ = some (.slice a (SO.helpers s).length c) ∧ RS lyI U a (SO.helpers s) ∧ SX w p B W N (hlp s (SO.helpers s)) U)) := by
      refine (chooseHelpers_x x).mono ?_
      rintro e w' ⟨a, c, rfl, h1, h2, h3⟩
      have x1 := x.grow h2
      refine ⟨a, c, rfl, x1.fz 16, ⟨_, x1.c16⟩, fun U hU => ?_⟩
      subst hU
      have x2 := x1.help (B' := fun k => B k ∨ ∃ off, a = some ⟨k, off, none⟩) a c (SO.helpers s) h1 hhl (fun k h => Or.inl h) (fun g off e => Or.inr ⟨off, e⟩) (fun k h => by
        rcases h with h | ⟨off, e⟩
        · exact Or.inl h
        · right
          have := h3 k off e
          have h5 := x.bl.size
          exact ⟨by omega, this.2⟩)
      refine ⟨fun V hV => ⟨(x2.grow hV).c15, (x2.grow hV).c14⟩, x2.c16, x2.hp.rs, SX.of x2 ⟨h2.os, h2.tape, h2.output, Nat.le_trans h2.size (grown_setCell w' p 16 _).size, fun k hk hn => ?_, fun k hk => ?_⟩⟩
      · rw [(grown_setCell w' p 16 _).block k (Nat.lt_of_lt_of_le hk h2.size) (fun e => hn ((Option.some.inj e) ▸ x.Bp))]
        exact h2.block k hk
      · rcases hk with h | ⟨off, e⟩
        · exact Or.inl h
        · exact Or.inr (h3 k off e).1
    generalize SO.helpers s = hs at *
    generalize s.ps = ps at *
    generalize s.pn = pn at *
    generalize hlp s hs = s2 at *
    obtain ⟨z, hz1, hz2⟩ := infoSn3
    have HFL : Hid (∀ U U' a c, SX w p B W N s2 U → Bl U U' → RS lyS U' a ((hs.map (fun h => SO.askF h ps pn)).map bs0) → (∀ g off, a = some ⟨g, off, none⟩ → U.heap.size ≤ g) → Calls Try.prog 23 #[.pointer (some ⟨p, 0, none⟩), .slice a hs.length c] U' fun e w' => Ans w p B W N (SO.tellS s2 (hs.map (fun h => SO.askF h ps pn))) (SO.tellL s2 (hs.map (fun h => SO.askF h ps pn))) e w') := fun U U' a c h1 h2 h3 h4 => by
      have := tell_sx h1 (hs.map (fun h => SO.askF h ps pn)) (by simp; omega) U' h2 a c h3 h4
      rwa [List.length_map] at this
    clear x HA HE ho
    go_enter Try.func14, Try.ntmps14
    go_wp2_with (first
      | (go_at_call 34; refine (C1.out).mono ?_; clear C1; rintro e w1 ⟨rfl, hw⟩; rw [hw]; clear hw w1)
      | (go_at_call 35; refine (C2.out).mono ?_; clear C2; rintro e w1 ⟨a, c, rfl, f16, ⟨u16, k16⟩, HU⟩))
    obtain ⟨W2, hW2⟩ : ∃ W2, W2 = w1.setCell ⟨p, 16, none⟩ (.slice a hs.length c) := ⟨_, rfl⟩
    obtain ⟨hc, h16, hrs, hsx⟩ := HU.out W2 hW2
    rw [← hW2]
    have CXX := hidI hc
    have HRS := hidI hrs
    have HSX := hidI hsx
    clear hW2 hc hrs hsx HU f16 k16
    go_wp2_with fail
    go_loopw [3, 5, 23] (fun u3 _ u23 wr => ∃ k : Nat, k ≤ hs.length ∧ u23 = .int .i64 (k : Int) ∧ Bl W2 wr ∧ wr.ownsRow W2.heap.size tSn 238 u3 k (flG lyS (((hs.take k).map (fun h => SO.askF h ps pn)).map bs0))) (fun _ _ u23 _ => hs.length - (intOf u23).toNat)
    case atStart => exact ⟨0, by omega, rfl, Bl.refl _, ⟨rfl, Or.inl ⟨rfl, rfl⟩⟩⟩
    case round =>
     obtain ⟨k, hk, rfl, hbl, how⟩ := hrel
     by_cases hlt : k < hs.length
     · obtain ⟨y, hy⟩ : ∃ y, hs[k]? = some y := ⟨hs[k], List.getElem?_eq_getElem hlt⟩
       obtain ⟨b, off, rfl, hbb, ky⟩ := (HRS.out.bl hbl).at1 hy
       have CX : Hid (∀ U, Bl wr U → U.cell? ⟨p, 15, none⟩ = some (.int .i64 ps) ∧ U.cell? ⟨p, 14, none⟩ = some (.int .i64 pn)) := fun U h => CXX.out U (hbl.step h)
       have CX2 : Hid (∀ U, Bl W2 U → U.cell? ⟨p, 15, none⟩ = some (.int .i64 ps) ∧ U.cell? ⟨p, 14, none⟩ = some (.int .i64 pn)) := CXX.out
       have HTK : Hid (((hs.take (k + 1)).map (fun h => SO.askF h ps pn)).map bs0 = ((hs.take k).map (fun h => SO.askF h ps pn)).map bs0 ++ [bs0 (SO.askF y ps pn)]) := by
         show _ = _
         rw [List.take_add_one, hy, Option.toList_some, List.map_append, List.map_append]; rfl
       obtain ⟨FK, hFK0⟩ : ∃ FK, (hs.take k).map (fun h => SO.askF h ps pn) = FK := ⟨_, rfl⟩
       have HFK : Hid (k = (FK.map bs0).length) := by show _ = _; rw [← hFK0]; simp; omega
       rw [hFK0] at how HTK
       have HOW := hidI (ownsRow_bl how ((Bl.refl wr).drewN 1))
       have hsz : W2.heap.size ≤ (wr.drewN 1).heap.size := Below.size (hbl.drewN 1)
       have HGB : Hid (∀ w2, (wr.drewN 1).grownBy w2 u3.ownBlock → Bl W2 w2) := fun w2 hg => grown_new (hbl.drewN 1) (Nat.le_refl _) (fun q e => (owns_ge how e).1) hg
       have HB : Bl wr (wr.drewN 1) := (Bl.refl wr).drewN 1
       have b1 : Try.prog.built 48 (#[(0, .int .i64 3), (2, .int .i64 ps), (3, .int .i64 pn)] : Array (Nat × Value)).toList = some (frL 3 0 ps pn zM nilV).toArray := build56b 3 ps pn
       have b2 : Try.prog.built 50 (#[(0, .int .i64 y), (1, .agg (frL 3 0 ps pn zM nilV).toArray)] : Array (Nat × Value)).toList = some (snL y 3 0 ps pn zM nilV).toArray := build66 y 3 0 ps pn
       have HLA : Hid ((snL y 3 0 ps pn zM nilV).toArray = (lyS.f (bs0 (SO.askF y ps pn))).toArray) := rfl
       obtain ⟨D, hD⟩ : ∃ D, (frL 3 0 ps pn zM nilV).toArray = D := ⟨_, rfl⟩
       rw [hD] at b1 b2
       obtain ⟨L, hL0⟩ : ∃ L, snL y 3 0 ps pn zM nilV = L := ⟨_, rfl⟩
       have hL : L.length = 238 := by rw [← hL0]; exact snL_len zM_len
       rw [hL0] at b2 HLA
       clear hy hFK0 hD hL0 how hbl HRS CXX HSX HFL
       go_wp2_with fail
       refine wp_region_noPanic ?_
       refine wp_region_held_drew (S := fun U => U.cell? ⟨p, 15, none⟩ = some (.int .i64 ps) ∧ U.cell? ⟨p, 14, none⟩ = some (.int .i64 pn)) (by kernel_rfl) ((CX.out _ HB)) (fun hHeld => ?_)
       refine wpAnyH_take (i := 0) rfl (by kernel_rfl) (by kernel_rfl) (by kernel_rfl) (fun _ _ _ h => h) (yi_move (by kernel_rfl) rfl rfl) (by assumption) ?_
       simp only [Act.put, List.getElem_toArray, List.getElem_cons_succ, List.getElem_cons_zero, List.setIfInBounds_toArray, List.set_cons_zero, List.set_cons_succ]
       refine wpAnyH_take (i := 1) rfl (by kernel_rfl) (by kernel_rfl) (by kernel_rfl) (fun _ _ _ h => h) (yi_move (by kernel_rfl) rfl rfl) (by assumption) ?_
       simp only [Act.put, List.getElem_toArray, List.getElem_cons_succ, List.getElem_cons_zero, List.setIfInBounds_toArray, List.set_cons_zero, List.set_cons_succ]
       refine wpAnyH_take (i := 2) rfl (by kernel_rfl) (by kernel_rfl) (by kernel_rfl) (fun _ _ _ h => h) (yi_move (by kernel_rfl) rfl rfl) (by assumption) ?_
       simp only [Act.put, List.getElem_toArray, List.getElem_cons_succ, List.getElem_cons_zero, List.setIfInBounds_toArray, List.set_cons_zero, List.set_cons_succ]
       refine wpAnyH_take (i := 3) (v := ?_) rfl (by kernel_rfl) (by kernel_rfl) (by kernel_rfl) (fun _ _ _ h => h) (Or.inl ⟨by kernel_rfl, ?_⟩) (by assumption) ?_
       rotate_left
       · (intro w hSw; (try dsimp only at hSw); go_simp; (try with_reducible rfl))
       simp only [Act.put, List.getElem_toArray, List.getElem_cons_succ, List.getElem_cons_zero, List.setIfInBounds_toArray, List.set_cons_zero, List.set_cons_succ]
       refine wpAnyH_take (i := 4) (v := ?_) rfl (by kernel_rfl) (by kernel_rfl) (by kernel_rfl) (fun _ _ _ h => h) (Or.inl ⟨by kernel_rfl, ?_⟩) (by assumption) ?_
       rotate_left
       · (intro w hSw; (try dsimp only at hSw); go_simp; (try with_reducible rfl))
       simp only [Act.put, List.getElem_toArray, List.getElem_cons_succ, List.getElem_cons_zero, List.setIfInBounds_toArray, List.set_cons_zero, List.set_cons_succ]
       refine wpAnyH_take (i := 5) (v := ?_) rfl (by kernel_rfl) (by kernel_rfl) (by kernel_rfl) (fun _ _ _ h => h) (Or.inl ⟨by kernel_rfl, ?_⟩) (by assumption) ?_
       rotate_left
       · (intro w hSw; (try dsimp only at hSw); go_simp; (try with_reducible rfl))
       simp only [Act.put, List.getElem_toArray, List.getElem_cons_succ, List.getElem_cons_zero, List.setIfInBounds_toArray, List.set_cons_zero, List.set_cons_succ]
       refine wpAnyH_take (i := 6) (v := ?_) rfl (by kernel_rfl) (by kernel_rfl) (by kernel_rfl) (fun _ _ _ h => h) (Or.inl ⟨by kernel_rfl, ?_⟩) (by assumption) ?_
       rotate_left
       · (intro w hSw; obtain ⟨e1, e2⟩ := hSw; go_simp; (try with_reducible rfl))
       simp only [Act.put, List.getElem_toArray, List.getElem_cons_succ, List.getElem_cons_zero, List.setIfInBounds_toArray, List.set_cons_zero, List.set_cons_succ]
       refine wpAnyH_take (i := 7) rfl (by kernel_rfl) (by kernel_rfl) (by kernel_rfl) (fun _ _ _ h => h) (yi_move (by kernel_rfl) rfl rfl) (by assumption) ?_
       simp only [Act.put, List.getElem_toArray, List.getElem_cons_succ, List.getElem_cons_zero, List.setIfInBounds_toArray, List.set_cons_zero, List.set_cons_succ]
       refine wpAnyH_take (i := 8) (v := ?_) rfl (by kernel_rfl) (by kernel_rfl) (by kernel_rfl) (fun _ _ _ h => h) (Or.inl ⟨by kernel_rfl, ?_⟩) (by assumption) ?_
       rotate_left
       · (intro w hSw; (try dsimp only at hSw); go_simp; (try with_reducible rfl))
       simp only [Act.put, List.getElem_toArray, List.getElem_cons_succ, List.getElem_cons_zero, List.setIfInBounds_toArray, List.set_cons_zero, List.set_cons_succ]
       refine wpAnyH_take (i := 9) (v := ?_) rfl (by kernel_rfl) (by kernel_rfl) (by kernel_rfl) (fun _ _ _ h => h) (Or.inl ⟨by kernel_rfl, ?_⟩) (by assumption) ?_
       rotate_left
       · (intro w hSw; (try dsimp only at hSw); go_simp; (try with_reducible rfl))
       simp only [Act.put, List.getElem_toArray, List.getElem_cons_succ, List.getElem_cons_zero, List.setIfInBounds_toArray, List.set_cons_zero, List.set_cons_succ]
       refine wpAnyH_take (i := 10) (v := ?_) rfl (by kernel_rfl) (by kernel_rfl) (by kernel_rfl) (fun _ _ _ h => h) (Or.inl ⟨by kernel_rfl, ?_⟩) (by assumption) ?_
       rotate_left
       · (intro w hSw; (try dsimp only at hSw); go_simp; (try with_reducible rfl))
       simp only [Act.put, List.getElem_toArray, List.getElem_cons_succ, List.getElem_cons_zero, List.setIfInBounds_toArray, List.set_cons_zero, List.set_cons_succ]
       refine wpAnyH_take (i := 11) (v := ?_) rfl (by kernel_rfl) (by kernel_rfl) (by kernel_rfl) (fun _ _ _ h => h) (Or.inl ⟨by kernel_rfl, ?_⟩) (by assumption) ?_
       rotate_left
       · (intro w hSw; obtain ⟨e1, e2⟩ := hSw; go_simp; (try with_reducible rfl))
       simp only [Act.put, List.getElem_toArray, List.getElem_cons_succ, List.getElem_cons_zero, List.setIfInBounds_toArray, List.set_cons_zero, List.set_cons_succ]
       refine wpAnyH_take (i := 12) (v := .agg D) rfl (by kernel_rfl) (by kernel_rfl) (by kernel_rfl) (fun _ _ _ h => h) (yi_buildS (by kernel_rfl) rfl #[(0, .int .i64 3), (2, .int .i64 ps), (3, .int .i64 pn)] (by rfl) (fun w => run_build w _ _ _ b1)) (by assumption) ?_
       simp only [Act.put, List.getElem_toArray, List.getElem_cons_succ, List.getElem_cons_zero, List.setIfInBounds_toArray, List.set_cons_zero, List.set_cons_succ]
       refine wpAnyH_take (i := 13) (v := .agg L.toArray) rfl (by kernel_rfl) (by kernel_rfl) (by kernel_rfl) (fun _ _ _ h => h) (yi_buildS (by kernel_rfl) rfl #[(0, .int .i64 y), (1, .agg D)] (by rfl) (fun w => run_build w _ _ _ b2)) (by assumption) ?_
       simp only [Act.put, List.getElem_toArray, List.getElem_cons_succ, List.getElem_cons_zero, List.setIfInBounds_toArray, List.set_cons_zero, List.set_cons_succ]
       refine wpAnyH_ready (rs := [14]) (by kernel_rfl) (by simp) ?_
       refine AllReadyH.cons (o := _) rfl (fun K hK => ?_) AllReadyH.nil
       refine stepo_bs1 rfl 28 tSn _ rfl L 238 408 (.agg z) undSs hz1 hL (by omega) (by omega) (by rfl) (hK.out _ _ ((CX.out _ ((HB).alloc _))) (fun hHeld => ?_))
       clear hK K
       (try simp only [Act.put, List.getElem_toArray, List.getElem_cons_succ, List.getElem_cons_zero, List.setIfInBounds_toArray, List.set_cons_zero, List.set_cons_succ])
       refine wpAnyH_ready (rs := [15]) (by kernel_rfl) (by simp) ?_
       refine AllReadyH.cons (o := _) rfl (fun K hK => ?_) AllReadyH.nil
       refine stepo_app1X lyS tSn 28 (.agg z) 408 undSs hz1 hz2 (by omega) rfl _ _ rfl W2.heap.size k (FK.map bs0) HFK.out (bs0 (SO.askF y ps pn)) u3 (by rfl) hsz HOW.out wr.heap.size rfl (by rfl) (by omega) ?_ _ HLA.out rfl
       intro g c' w2 g1 g2 g3 g4
       have HZ := HGB.out w2 g2
       refine hK.out _ _ (CX2.out _ HZ) (fun hHeld => ?_)
       clear hK K
       (try simp only [Act.put, List.getElem_toArray, List.getElem_cons_succ, List.getElem_cons_zero, List.setIfInBounds_toArray, List.set_cons_zero, List.set_cons_succ])
       refine wpAnyH_take (i := 16) rfl (by kernel_rfl) (by kernel_rfl) (by kernel_rfl) (fun _ _ _ h => h) (yi_assign (by kernel_rfl) rfl rfl) (by assumption) ?_
       simp only [Act.put, List.getElem_toArray, List.getElem_cons_succ, List.getElem_cons_zero, List.setIfInBounds_toArray, List.set_cons_zero, List.set_cons_succ]
       refine wpAnyH_done (by kernel_rfl) ?_ _
       refine NoPanic.normal ?_
       have G1 := hidI g1
       have HZ2 := hidI HZ
       clear g1 g2 g3 g4 HZ hHeld
       go_wp2_with fail
       go_roundw
       case rel => exact ⟨k + 1, by omega, by go_num, HZ2.out, by rw [HTK.out]; exact G1.out⟩
       case measure => simp [intOf]; omega
     · obtain rfl : k = hs.length := by omega
       rw [List.take_length] at how
       obtain ⟨a5, c5, rfl, r5⟩ := owns_rs lyS (ks := (hs.map (fun h => SO.askF h ps pn)).map bs0) (by rw [List.length_map, List.length_map]; exact how)
       have hge : ∀ g off, a5 = some ⟨g, off, none⟩ → W2.heap.size ≤ g := fun g off e => (owns_ge how (by rw [e]; rfl)).1
       simp only [List.length_map]
       have CT := hidI (HFL.out W2 wr a5 c5 HSX.out hbl r5 hge)
       clear how r5 hge HFL hbl HRS HSX CXX
       obtain ⟨R1, hR1⟩ : ∃ R1, SO.tellS s2 (hs.map (fun h => SO.askF h ps pn)) = R1 := ⟨_, rfl⟩
       obtain ⟨R2, hR2⟩ : ∃ R2, SO.tellL s2 (hs.map (fun h => SO.askF h ps pn)) = R2 := ⟨_, rfl⟩
       rw [hR1, hR2] at CT
       have HR1 := hidI hR1
       have HR2 := hidI hR2
       clear hR1 hR2
       go_wp2_with (go_at_call 23; refine (CT.out).mono ?_; clear CT; rintro e w7 h7; obtain ⟨a7, c7, ys7, B7, rfl, h8⟩ := h7; have H8 := hidI h8; clear h8)
       go_ret
       exact ⟨a7, c7, ys7, B7, by rw [HR2.out]; rfl, by rw [HR1.out, HR2.out]; exact H8.out⟩
end Go.Proofs.Ytebmgajijjhinaa
