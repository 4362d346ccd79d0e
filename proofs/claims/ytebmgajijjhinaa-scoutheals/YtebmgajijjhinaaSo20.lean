/- errands.close. -/
import Derived.Test.YtebmgajijjhinaaSo19
namespace Go.Proofs.Ytebmgajijjhinaa
open Go.RowKit Go.Maps
set_option linter.unusedVariables false
set_option linter.unusedSimpArgs false

/-- one cell is stored: the world behind it by a name of its own -/
theorem wl_set1 {P : Program} {ops : Array Oper} {rest : List Oper} {o : Oper} {a : Act} {w : World} {Q : Exit → Act → World → Prop} (hgd : o.guard = none) (ty : TypeId) (x y : Operand) (ho : o.op = .store ty x y) (g i : Nat) (v u : Value) (hx : a.eval x = .pointer (some ⟨g, i, none⟩)) (hy : a.eval y = v) (hv : v.oneCell' = true) (hi : (P.info? ty).map (·.size) = some 1)
    (hcell : w.cell? ⟨g, i, none⟩ = some u) (hf : w.frozen? ⟨g, i, none⟩ = false)
    (h : ∀ U, U = w.setCell ⟨g, i, none⟩ v → wpList P ops Q rest (a.put o.dst undef) U) : wpList P ops Q (o :: rest) a w := by
  refine wpList_plain hgd fun _ hK => ?_
  have hc : v.cells = #[v] := by cases v <;> first | rfl | cases hv
  have hrun : (storeVar ty ⟨g, i, none⟩ v).run P w = .ok () (w.setCell ⟨g, i, none⟩ v) := by
    cases hq : P.info? ty with
    | none => simp [hq] at hi
    | some inf =>
      have hs : inf.size = 1 := by simpa [hq] using hi
      have := run_storeCells_cells (P := P) g i [v] 0 w (fun j hj => by simp at hj; subst hj; simp [hcell]) (fun j hj => by simp at hj; subst hj; simpa using hf) (fun u hu => by simp at hu; rw [hu]; exact hv)
      have e : w.setCells g (i + 0) [v] = w.setCell ⟨g, i, none⟩ v := rfl
      rw [e] at this
      simp [storeVar, sizeOf, typeInfo, hq, hc, hs, this]
  unfold Oper.wp execOp
  simp only [ho, hx, hy, Instr.storeAt, Instr.sureAddr, Sem.run_bind, Sem.run_pure, Result.andThen_ok, hrun]
  exact hK _ _ (h _ rfl)
theorem undEr : ∃ fs, Try.prog.underlying tEr = some (.struct fs) := ⟨_, Try.underlying98⟩
theorem infoEr : (Try.prog.info? tEr).map (·.size) = some 5 := by kernel_rfl
theorem range5 {w : World} {b : Nat} {x y z u v : Value} {t : TypeId} (h : w.heap[b]? = some (.cells #[x, y, z, u, v] t (0, 0))) : w.rangeAt b 0 [x, y, z, u, v] := fun j q hq => by rw [Lib.cell_of_heap h, Nat.zero_add]; simpa using hq
def zEr : Array Value := #[.int .i64 0, .int .i64 0, .int .i64 0, .int .i64 0, .bool false]
def erV (e : SO.Er) : Array Value := (lyE.f e).toArray
def clV (o : Option SO.Er) : Value := match o with | some e => .tuple #[.agg (erV e), .bool true] | none => .tuple #[.agg zEr, .bool false]
theorem closeL_at {f : SO.Fr} : ∀ {l : List SO.Er} {k : Nat} {e : SO.Er}, (∀ i x, i < k → l[i]? = some x → SO.fitE f x = false) → l[k]? = some e → SO.fitE f e = true → SO.closeL f l = l.set k (SO.shut e) ∧ l.find? (SO.fitE f) = some e
  | [], k, e, _, h, _ => by simp at h
  | y :: r, 0, e, _, h, he => by
    simp at h; subst h
    exact ⟨by unfold SO.closeL; rw [if_pos he]; rfl, by simp [he]⟩
  | y :: r, k + 1, e, hp, h, he => by
    have hy := hp 0 y (by omega) rfl
    have ih := closeL_at (l := r) (k := k) (e := e) (fun i x hi hx => hp (i + 1) x (by omega) (by simpa using hx)) (by simpa using h) he
    refine ⟨?_, ?_⟩
    · unfold SO.closeL
      rw [if_neg (by rw [hy]; decide), ih.1]; rfl
    · rw [List.find?_cons, hy]; exact ih.2
theorem find_none {f : SO.Fr} {l : List SO.Er} (h : ∀ i x, i < l.length → l[i]? = some x → SO.fitE f x = false) : l.find? (SO.fitE f) = none := by
  rw [List.find?_eq_none]
  intro x hx
  obtain ⟨i, hi, rfl⟩ := List.getElem_of_mem hx
  rw [h i _ hi (List.getElem?_eq_getElem hi)]; decide
theorem closeL_none {f : SO.Fr} : ∀ {l : List SO.Er}, (∀ i x, i < l.length → l[i]? = some x → SO.fitE f x = false) → SO.closeL f l = l
  | [], _ => rfl
  | y :: r, h => by
    have hy := h 0 y (by simp) rfl
    unfold SO.closeL
    rw [if_neg (by rw [hy]; decide), closeL_none (fun i x hi hx => h (i + 1) x (by simp; omega) (by simpa using hx))]
theorem set_shut (g k : Nat) (e : SO.Er) {W : World} {N0 n cap : Nat} {L : List SO.Er} (hn : n = L.length) (h : W.ownsRow N0 tEr 5 (.slice (some ⟨g, 0, none⟩) n cap) n (flG lyE L)) (hk : L[k]? = some e) : W.cell? ⟨g, k * 5 + 4, none⟩ = some (.bool e.closed) ∧ W.frozen? ⟨g, k * 5 + 4, none⟩ = false ∧ (W.setCell ⟨g, k * 5 + 4, none⟩ (.bool true)).ownsRow N0 tEr 5 (.slice (some ⟨g, 0, none⟩) n cap) n (flG lyE (L.set k (SO.shut e))) := by
  have hkl := (List.getElem?_eq_some_iff.1 hk).1
  obtain ⟨h0, ⟨h1, _⟩ | ⟨g', cap', cur, h1, h2, h3, h4, h5, h6, h7⟩⟩ := h
  · cases h1
  · cases h1
    have hcell : cur.toList[k * 5 + 4]? = some (.bool e.closed) := by
      have e1 : (cur.toList.take (n * 5))[k * 5 + 4]? = cur.toList[k * 5 + 4]? := by rw [List.getElem?_take, if_pos (by omega)]
      rw [← e1, h7]
      obtain ⟨a, z, q1, q2⟩ := flG_at lyE L hk
      have q3 : a.length = k * 5 := q2
      rw [q1, List.getElem?_append_right (by omega), q3, Nat.add_sub_cancel_left]; rfl
    refine ⟨by rw [Lib.cell_of_heap h3, ← Array.getElem?_toList]; exact hcell, by simp [World.frozen?, h3], ?_⟩
    refine ⟨by rw [flG_len, List.length_set, hn]; rfl, Or.inr ⟨g, cap, cur.setIfInBounds (k * 5 + 4) (.bool true), rfl, h2, heap_setCell_own h3, h4, h5, by rw [Array.size_setIfInBounds]; exact h6, ?_⟩⟩
    rw [Array.toList_setIfInBounds, List.take_set, h7, flG_set lyE L k (SO.shut e) hkl]
    obtain ⟨a, z, q1, q2⟩ := flG_at lyE L hk
    have q3 : a.length = k * 5 := q2
    have e5 : k * lyE.k = a.length := q2.symm
    rw [e5, q1, show a.length = a.length + 0 from rfl, setL_app, ← q3]
    rw [List.set_append_right _ _ (by omega), Nat.add_sub_cancel_left]
    rfl
set_option maxRecDepth 8000 in
set_option maxHeartbeats 4000000 in
theorem close_x {W : World} {N0 : Nat} {ev : Value} {er : List SO.Er} (ho : W.ownsRow N0 tEr 5 ev er.length (flG lyE er)) (hl : er.length ≤ 100) (FL : List Value) (f : SO.Fr) (a : Option Addr) (c : Nat) (hf : FrC FL f a c) :
    Calls Try.prog 46 #[ev, .agg FL.toArray] W fun e w' => e = .returned (clV (er.find? (SO.fitE f))) ∧ w'.ownsRow N0 tEr 5 ev er.length (flG lyE (SO.closeL f er)) ∧ W.grownBy w' ev.ownBlock := by
  obtain ⟨a1, c1, rfl, hrs⟩ := owns_rs lyE ho
  have HO := hidI ho
  have HR := hidI hrs
  have HF : Hid (∀ U, Bl (W.alloc (.cells FL.toArray tFr)) U → U.cell? ⟨W.heap.size, 1, none⟩ = some (.int .i64 f.frm) ∧ U.cell? ⟨W.heap.size, 2, none⟩ = some (.int .i64 f.seq)) := fun U h => ⟨cellL h.box hf.k1, cellL h.box hf.k2⟩
  have HZ : Hid (∀ U, Bl ((W.alloc (.cells FL.toArray tFr)).alloc (.cells zEr tEr)) U → U.heap[W.heap.size + 1]? = some (.cells zEr tEr (0, 0)) ∧ Bl (W.alloc (.cells FL.toArray tFr)) U ∧ Bl W U) := fun U h => by
    have h1 := h.box
    rw [size_alloc1] at h1
    exact ⟨h1, h.up, h.up.up⟩
  obtain ⟨fs, hum⟩ := undEr
  clear ho hrs hf
  go_enter Try.func46, Try.ntmps46
  go_wp2_with fail
  go_loopw [6, 7, 10] (fun _ _ u10 wr => ∃ k : Nat, k ≤ er.length ∧ u10 = .int .i64 (k : Int) ∧ Bl ((W.alloc (.cells FL.toArray tFr)).alloc (.cells zEr tEr)) wr ∧ ∀ i x, i < k → er[i]? = some x → SO.fitE f x = false) (fun _ _ u10 _ => er.length - (intOf u10).toNat)
  case atStart => exact ⟨0, by omega, rfl, Bl.refl _, fun i x h => by omega⟩
  case round =>
    obtain ⟨k, hk, rfl, hbl, hpre⟩ := hrel
    obtain ⟨z1, z2, z3⟩ := HZ.out _ hbl
    obtain ⟨q1, q2⟩ := HF.out _ z2
    by_cases hlt : k < er.length
    · obtain ⟨e0, he0⟩ : ∃ e0, er[k]? = some e0 := ⟨er[k], List.getElem?_eq_getElem hlt⟩
      obtain ⟨g, off, rfl, hg, hrg⟩ := (HR.out.bl z3) k e0 he0
      have HRG : Hid (wr.rangeAt g (off + k * 5) [.int .i64 e0.seq, .int .i64 e0.node, .int .i64 e0.asker, .int .i64 e0.asked, .bool e0.closed]) := hrg
      have HFB : Hid (SO.fitE f e0 = ((e0.seq == f.seq) && (e0.node == f.frm) && !e0.closed)) := rfl
      have HNX : Hid (SO.fitE f e0 = false → ∀ i x, i < k + 1 → er[i]? = some x → SO.fitE f x = false) := fun h i x hi hx => by
        rcases (by omega : i < k ∨ i = k) with h' | rfl
        · exact hpre i x h' hx
        · rw [he0] at hx; cases hx; exact h
      have HYS : Hid (SO.fitE f e0 = true → SO.closeL f er = er.set k (SO.shut e0) ∧ er.find? (SO.fitE f) = some e0) := fun h => closeL_at hpre he0 h
      have HBL : Hid (∀ o, Bl ((W.alloc (.cells FL.toArray tFr)).alloc (.cells zEr tEr)) (wr.alloc o)) := fun o => hbl.alloc o
      have z4 := Below.size z3
      have HE0 := hidI he0
      clear hrg hpre he0 hbl
      obtain ⟨es, en, eas, ead, ec⟩ := e0
      obtain ⟨q3, q4⟩ := HF.out _ (z2.alloc (.cells #[.int .i64 es, .int .i64 en, .int .i64 eas, .int .i64 ead, .bool ec] tEr))
      have z5 := lt_heap z1
      have hne5 : W.heap.size ≠ wr.heap.size := by omega
      clear z2
      simp only at HRG HFB HNX HYS
      obtain ⟨b1, hb1⟩ : ∃ b, (es == f.seq) = b := ⟨_, rfl⟩
      obtain ⟨b2, hb2⟩ : ∃ b, (en == f.frm) = b := ⟨_, rfl⟩
      rw [hb1, hb2] at HFB
      have WALK0 : True := trivial
      cases b1 with
      | false =>
        have HN2 := hidI (HNX.out (by rw [HFB.out]; rfl))
        clear HNX HYS HFB
        go_wp2_with (refine wpList_load_mid rfl tEr _ rfl g (off + k * 5) rfl [.int .i64 es, .int .i64 en, .int .i64 eas, .int .i64 ead, .bool ec] _ HRG.out hum rfl infoEr ?_; clear HRG)
        go_roundw
        case rel => exact ⟨k + 1, by omega, by go_num, HBL.out _, HN2.out⟩
        case measure => simp [intOf]; omega
      | true =>
        cases b2 with
        | false =>
          have HN2 := hidI (HNX.out (by rw [HFB.out]; rfl))
          clear HNX HYS HFB
          go_wp2_with (refine wpList_load_mid rfl tEr _ rfl g (off + k * 5) rfl [.int .i64 es, .int .i64 en, .int .i64 eas, .int .i64 ead, .bool ec] _ HRG.out hum rfl infoEr ?_; clear HRG)
          go_roundw
          case rel => exact ⟨k + 1, by omega, by go_num, HBL.out _, HN2.out⟩
          case measure => simp [intOf]; omega
        | true =>
          cases ec with
          | true =>
            have HN2 := hidI (HNX.out (by rw [HFB.out]; rfl))
            clear HNX HYS HFB
            go_wp2_with (refine wpList_load_mid rfl tEr _ rfl g (off + k * 5) rfl [.int .i64 es, .int .i64 en, .int .i64 eas, .int .i64 ead, .bool true] _ HRG.out hum rfl infoEr ?_; clear HRG)
            go_roundw
            case rel => exact ⟨k + 1, by omega, by go_num, HBL.out _, HN2.out⟩
            case measure => simp [intOf]; omega
          | false =>
            have HY := hidI (HYS.out (by rw [HFB.out]; rfl))
            obtain ⟨rfl⟩ : off = 0 := by
              obtain ⟨_, ⟨h5, _⟩ | ⟨g', cap', cur, h5, _⟩⟩ := HO.out
              · cases h5
              · cases h5; rfl
            obtain ⟨V, hV⟩ : ∃ V, V = wr.alloc (.cells #[.int .i64 es, .int .i64 en, .int .i64 eas, .int .i64 ead, .bool false] tEr) := ⟨_, rfl⟩
            obtain ⟨v1, v2⟩ := new_V hV
            have hWV : Bl W V := z3.step v2
            have hzV : V.heap[W.heap.size + 1]? = some (.cells zEr tEr (0, 0)) := (Below.block v2 _ z5).trans z1
            have hoV := ownsRow_bl HO.out hWV
            have hgW : g < W.heap.size := by
              obtain ⟨C, hC⟩ := own_tag HO.out (g := g) rfl
              exact lt_heap hC
            obtain ⟨t1, t2, t3⟩ := set_shut g k ⟨es, en, eas, ead, false⟩ rfl hoV HE0.out
            have gs := grown_setCell V g (k * 5 + 4) (.bool true)
            have F1 : Hid (∀ U, U = V.setCell ⟨g, k * 5 + 4, none⟩ (.bool true) → U.heap[wr.heap.size]? = some (.cells #[.int .i64 es, .int .i64 en, .int .i64 eas, .int .i64 ead, .bool false] tEr (0, 0)) ∧ U.heap[W.heap.size + 1]? = some (.cells zEr tEr (0, 0)) ∧ U.ownsRow N0 tEr 5 (.slice (some ⟨g, 0, none⟩) er.length c1) er.length (flG lyE (SO.closeL f er)) ∧ W.grownBy U (some g)) := fun U hU => by
              subst hU
              refine ⟨(gs.block _ (lt_heap v1) (fun e => by have := Option.some.inj e; omega)).trans v1, (gs.block _ (lt_heap hzV) (fun e => by have := Option.some.inj e; omega)).trans hzV, by rw [HY.out.1]; exact t3, (grown_bl hWV _).trans gs⟩
            have FIN : Hid (∀ U Z, U.heap[W.heap.size + 1]? = some (.cells zEr tEr (0, 0)) → U.ownsRow N0 tEr 5 (.slice (some ⟨g, 0, none⟩) er.length c1) er.length (flG lyE (SO.closeL f er)) → W.grownBy U (some g) → (U.setRow (W.heap.size + 1) Z).ownsRow N0 tEr 5 (.slice (some ⟨g, 0, none⟩) er.length c1) er.length (flG lyE (SO.closeL f er)) ∧ W.grownBy (U.setRow (W.heap.size + 1) Z) (some g)) := fun U Z h1 h2 h3 => by
              have o5 := of1_setRow U (W.heap.size + 1) Z
              refine ⟨own_keep h2 (fun q C e e2 => o5.block q (lt_heap e2) (fun e3 => by have e4 : g = q := Option.some.inj e; omega)), ⟨o5.os.trans h3.os, o5.tape.trans h3.tape, o5.output.trans h3.output, Nat.le_trans h3.size o5.size, fun q hq hn => (o5.block q (Nat.lt_of_lt_of_le hq h3.size) (by omega)).trans (h3.block q hq hn)⟩⟩
            have HRG0 : Hid (wr.rangeAt g (k * 5) [.int .i64 es, .int .i64 en, .int .i64 eas, .int .i64 ead, .bool false]) := by
              have := HRG.out
              rw [Nat.zero_add] at this
              exact this
            clear HRG
            have HT1 := hidI t1
            have HT2 := hidI t2
            have HYF := hidI HY.out.2
            have hvq : V.cell? ⟨W.heap.size, 1, none⟩ = some (.int .i64 f.frm) ∧ V.cell? ⟨W.heap.size, 2, none⟩ = some (.int .i64 f.seq) := by rw [hV]; exact ⟨q3, q4⟩
            obtain ⟨q5, q6⟩ := hvq
            have hVr : V.rangeAt wr.heap.size 0 [.int .i64 es, .int .i64 en, .int .i64 eas, .int .i64 ead, .bool false] := range5 v1
            have HV := hidI hV
            have V1 := hidI v1
            clear HNX HYS HFB HY t1 t2 t3 gs hoV hzV hWV v2 v1 z1 z3 q1 q2 q3 q4 HF HZ HR HO HBL HE0 hV
            go_wp2_with (first
              | (refine wpList_load_mid rfl tEr _ rfl g (k * 5) rfl [.int .i64 es, .int .i64 en, .int .i64 eas, .int .i64 ead, .bool false] _ HRG0.out hum rfl infoEr ?_; clear HRG0)
              | (refine wpList_store_row rfl tEr _ _ rfl wr.heap.size #[.int .i64 es, .int .i64 en, .int .i64 eas, .int .i64 ead, .bool false] rfl rfl tEr #[.int .i64 0, .int .i64 0, .int .i64 0, .int .i64 0, .bool false] (heap_alloc_new wr _) infoEr rfl (by simp [Value.oneCell']) ?_; rw [World.setRow_alloc_new, ← HV.out]; obtain ⟨w0, w1, w2, w3, w4⟩ : V.cell? ⟨wr.heap.size, 0, none⟩ = some (.int .i64 es) ∧ V.cell? ⟨wr.heap.size, 1, none⟩ = some (.int .i64 en) ∧ V.cell? ⟨wr.heap.size, 2, none⟩ = some (.int .i64 eas) ∧ V.cell? ⟨wr.heap.size, 3, none⟩ = some (.int .i64 ead) ∧ V.cell? ⟨wr.heap.size, 4, none⟩ = some (.bool false) := ⟨hVr 0 _ rfl, hVr 1 _ rfl, hVr 2 _ rfl, hVr 3 _ rfl, hVr 4 _ rfl⟩)
              | (refine wl_set1 rfl 4 _ _ rfl g (k * 5 + 4) (.bool true) _ rfl rfl rfl info1f HT1.out HT2.out ?_; intro U hU; obtain ⟨r1, r2, r3, r4⟩ := F1.out U hU; have R1 := hidI r1; have R2 := hidI r2; have R3 := hidI r3; have R4 := hidI r4; clear r1 r2 r3 r4 hU)
              | (refine wpList_load_row rfl tEr _ rfl wr.heap.size rfl tEr #[.int .i64 es, .int .i64 en, .int .i64 eas, .int .i64 ead, .bool false] (0, 0) _ R1.out hum rfl infoEr ?_)
              | (refine wpList_store_row rfl tEr _ _ rfl (W.heap.size + 1) #[.int .i64 es, .int .i64 en, .int .i64 eas, .int .i64 ead, .bool false] rfl rfl tEr zEr R2.out infoEr rfl (by simp [Value.oneCell']) ?_))
            (try simp only [Exit.inBlock, Exit.then])
            refine bodyPost_ret (results2_row rfl _ _ (W.heap.size + 1) tEr #[.int .i64 es, .int .i64 en, .int .i64 eas, .int .i64 ead, .bool false] (0, 0) _ rfl (setRow_heap _ _ _ _ _ _ R2.out) hum rfl infoEr) rfl ?_
            exact ⟨by rw [HYF.out]; rfl, FIN.out _ _ R2.out R3.out R4.out⟩
    · obtain rfl : k = er.length := by omega
      have HN : Hid (er.find? (SO.fitE f) = none) := find_none hpre
      have HNC : Hid (SO.closeL f er = er) := closeL_none hpre
      have HQ : Hid (∀ U, Bl W U → U.ownsRow N0 tEr 5 (.slice a1 er.length c1) er.length (flG lyE er) ∧ W.grownBy U (Value.slice a1 er.length c1).ownBlock) := fun U h => ⟨ownsRow_bl HO.out h, grown_bl h _⟩
      have R1 := hidI z1
      have Z3 := hidI z3
      have z4 := Below.size z3
      clear hbl hpre z2 z1 z3 HF HZ HR HO q1 q2
      go_wp2_with (refine wpList_store_row rfl tEr _ _ rfl (W.heap.size + 1) zEr rfl rfl tEr zEr R1.out infoEr rfl (by simp [zEr, Value.oneCell']) ?_)
      (try simp only [Exit.inBlock, Exit.then])
      refine bodyPost_ret (results2_row rfl _ _ (W.heap.size + 1) tEr zEr (0, 0) _ rfl (setRow_heap _ _ _ _ _ _ R1.out) hum rfl infoEr) rfl ?_
      exact ⟨by rw [HN.out]; rfl, by rw [HNC.out]; exact HQ.out _ ((of1_setRow wr (W.heap.size + 1) zEr).bl Z3.out (Nat.le_succ _))⟩
end Go.Proofs.Ytebmgajijjhinaa
