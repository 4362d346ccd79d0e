/- The texts Y8c Y8d as one. -/
import Derived.Test.YthpdmeoljdmncaaYA
import Derived.Test.YthpdmeoljdmncaaTB
/- The reference's order. -/
namespace Go.Proofs.Ythpdmeoljdmncaa
open Go.RowKit
set_option linter.unusedVariables false
set_option linter.unusedSimpArgs false

/-- numbers and texts of one's own, beside each other -/
structure OD (V : World) (o : List Nat) (vo : Value) (d : List (List UInt8)) (vd : Value) (W : World) : Prop where
  o : W.ownsRow V.heap.size 3 1 vo o.length (o.map encI)
  d : W.ownsRow V.heap.size 9 1 vd d.length (d.map encS)
  b : Bl V W
theorem OD.step {V W W' : World} {o : List Nat} {vo vd : Value} {d : List (List UInt8)} (h : OD V o vo d vd W) (hb : Bl W W') : OD V o vo d vd W' := ⟨ownsRow_belowT h.o hb, ownsRow_belowT h.d hb, h.b.step hb⟩
theorem OD.sa {V W : World} {o : List Nat} {vo : Value} {a : Option Addr} {c : Nat} {d : List (List UInt8)} (h : OD V o vo d (.slice a d.length c) W) : SA W a d := fun i t ht => by
  obtain ⟨b, off, h1, _, h3⟩ := ts_own h.d i t ht
  exact ⟨b, off, h1, h3⟩
theorem heap_kept {W w8 : World} {N n k : Nat} {e T : TypeId} {v : Value} {xs : List Value} {ub : Nat} {C : Array Value} {fr : Nat × Nat} (hown : W.ownsRow N e k v n xs) (hg : W.grownBy w8 v.ownBlock) (hub : W.heap[ub]? = some (.cells C T fr)) (hne : e ≠ T) : w8.heap[ub]? = some (.cells C T fr) := by
  rw [hg.block ub (TA.lt_heap hub) (fun e2 => ?_)]
  · exact hub
  · obtain ⟨_, ⟨rfl, _⟩ | ⟨g', cap, cur, rfl, _, h3, _⟩⟩ := hown
    · cases e2
    · simp only [Value.ownBlock, Option.some.injEq] at e2
      subst e2
      rw [h3] at hub
      simp only [Option.some.injEq, Obj.cells.injEq] at hub
      exact hne hub.2.1
/-- a number more -/
theorem wl_odI {ops : Array Oper} {rest : List Oper} {o : Oper} {a : Act} {V W U : World} {Q : Exit → Act → World → Prop} (hgd : o.guard = none) (s x : Operand)
    (ho : o.op = .call { callee := .builtin .append, args := #[s, x], argTypes := #[31, 31] }) (ks : List Nat) (d : List (List UInt8)) (vd : Value) (p : Nat) (v : Value) (hs : a.eval s = v) (h0 : OD V ks v d vd W) (ub : Nat) (C : Array Value) (hub : W.heap[ub]? = some (.cells C 41 (0, 0)))
    (hx : a.eval x = .slice (some ⟨W.heap.size, 0, none⟩) 1 1) (hn : ks.length ≤ 90000)
    (h : ∀ a' c' w', OD V (ks ++ [p]) (.slice a' (ks.length + 1) c') d vd w' → w'.heap[ub]? = some (.cells C 41 (0, 0)) → wpList Try.prog ops Q rest (a.put o.dst (.slice a' (ks.length + 1) c')) w') (hU : U = W.alloc (.cells #[.int .i64 (p : Int)] 3)) : wpList Try.prog ops Q (o :: rest) a U := by
  subst hU
  have hb := h0.b
  have hsz : V.heap.size ≤ (W.alloc (.cells #[.int .i64 (p : Int)] 3)).heap.size := by
    have := Below.size hb; simp; omega
  have h1 := h0.step ((Bl.refl W).alloc (.cells #[.int .i64 (p : Int)] 3))
  refine wl_appI hgd s x ho V.heap.size ks v hs h1.o W.heap.size p hx ?_ hsz (by omega) (fun a' c' w' h2 h3 => ?_)
  · rw [Lib.cell_of_heap (heap_alloc_new W _)]; rfl
  · have e : (ks ++ [p]).length = ks.length + 1 := by simp
    rw [e] at h2 ⊢
    refine h a' c' w' ⟨by rw [e]; exact h2, ownsRow_grown h1.d h1.o (by decide) h3, Below.grown h1.b h3 hsz (fun q hq => (TA.owns_ge h1.o hq).1)⟩ (heap_kept h1.o h3 ?_ (by decide))
    rw [heap_alloc_old W _ (TA.lt_heap hub)]; exact hub
/-- a text more -/
theorem wl_odT {ops : Array Oper} {rest : List Oper} {o : Oper} {a : Act} {V W U : World} {Q : Exit → Act → World → Prop} (hgd : o.guard = none) (s x : Operand)
    (ho : o.op = .call { callee := .builtin .append, args := #[s, x], argTypes := #[22, 22] }) (ks : List Nat) (vo : Value) (d : List (List UInt8)) (t : List UInt8) (v : Value) (hs : a.eval s = v) (h0 : OD V ks vo d v W)
    (hx : a.eval x = .slice (some ⟨W.heap.size, 0, none⟩) 1 1) (hn : d.length ≤ 90000)
    (h : ∀ a' c' w', OD V ks vo (d ++ [t]) (.slice a' (d.length + 1) c') w' → wpList Try.prog ops Q rest (a.put o.dst (.slice a' (d.length + 1) c')) w') (hU : U = W.alloc (.cells #[.string (M.bs t)] 9)) : wpList Try.prog ops Q (o :: rest) a U := by
  subst hU
  have hb := h0.b
  have hsz : V.heap.size ≤ (W.alloc (.cells #[.string (M.bs t)] 9)).heap.size := by
    have := Below.size hb; simp; omega
  have h1 := h0.step ((Bl.refl W).alloc (.cells #[.string (M.bs t)] 9))
  refine TA.wl_app hgd s x ho V.heap.size d v hs h1.d (some ⟨W.heap.size, 0, none⟩) [t] 1 1 rfl hx ?_ hsz (by simp; omega) (fun v' w' h2 h3 => ?_)
  · have := TA.ts_new W [t] 9
    simpa [encS] using this
  · have e : (d ++ [t]).length = d.length + 1 := by simp
    rw [e] at h2
    obtain ⟨a', c', rfl⟩ := own_shape h2
    exact h a' c' w' ⟨ownsRow_grown h1.o h1.d (by decide) h3, by rw [e]; exact h2, Below.grown h1.b h3 hsz (fun q hq => (TA.owns_ge h1.d hq).1)⟩
theorem own_newI (W : World) : (W.alloc (.cells #[] 3)).ownsRow W.heap.size 3 1 (.slice (some ⟨W.heap.size, 0, none⟩) 0 0) ([] : List Nat).length (([] : List Nat).map encI) := by
  refine ⟨by simp, Or.inr ⟨W.heap.size, 0, _, rfl, Nat.le_refl _, heap_alloc_new W _, Nat.le_refl _, by unfold maxLen; simp, by simp, ?_⟩⟩
  simp
/-- whether k inputs are done -/
def rdK (D : List (List UInt8)) (q : Bool) (ins : List (List UInt8)) (k : Nat) : Bool := !q && (ins.take k).all fun s => decide (s ∈ D)
theorem rdK_succ {D : List (List UInt8)} {q : Bool} {ins : List (List UInt8)} {k : Nat} {s : List UInt8} (h : ins[k]? = some s) : rdK D q ins (k + 1) = (rdK D q ins k && decide (s ∈ D)) := by
  unfold rdK
  rw [List.take_add_one, h]
  simp [Bool.and_assoc]
theorem rdK_all (D : List (List UInt8)) (n : List UInt8) (ins : List (List UInt8)) (code : List UInt8) : rdK D (decide (n ∈ D)) ins ins.length = rdy D (n, ins, code) := by
  unfold rdK rdy; rw [List.take_length]

set_option maxRecDepth 8000 in
set_option maxHeartbeats 8000000 in
theorem rorder_x (g : RC.Gr) (sa : Option Addr) (sc : Nat) (aa : Option Addr) (ac : Nat) {w W : World} (HB : Bl w W) (hg : GA W.heap.size W g sa sc aa ac) (hk : grOk g) (h8 : g.1.length ≤ 8) (h12 : g.2.length ≤ 12) :
    Calls Try.prog 26 #[.agg (gv g sa sc aa ac)] W fun e w' => ∃ a c, e = .returned (.slice a (ordN g g.2.length).1.length c) ∧ IA w' a (ordN g g.2.length).1 ∧ Bl w w' := by
  obtain ⟨V, hV⟩ : ∃ V, V = W.alloc (.cells #[.slice sa g.1.length sc, .slice aa g.2.length ac] 25) := ⟨_, rfl⟩
  have hVs : V.heap.size = W.heap.size + 1 := by rw [hV]; simp
  have HBV : Hid (Bl w V) := by rw [hV]; exact HB.alloc _
  have HC : Hid (∀ U, Bl V U → U.cell? ⟨W.heap.size, 0, none⟩ = some (.slice sa g.1.length sc) ∧ U.cell? ⟨W.heap.size, 1, none⟩ = some (.slice aa g.2.length ac) ∧ W.heap.size < U.heap.size) := fun U hU => by
    rw [hV] at hU
    obtain ⟨h1, h2, h3, _⟩ := rbox_cells hU
    exact ⟨h1, h2, h3⟩
  have HG : Hid (GA V.heap.size V g sa sc aa ac) := by rw [hV]; exact hg.bl ((Bl.refl W).alloc _)
  have HK : Hid (grOk g) := hk
  have p1 := fun o1 o2 => (HC.out ((V.alloc o1).alloc o2) (((Bl.refl V).alloc o1).alloc o2)).1
  rw [hV] at p1
  have HTS : Hid (∀ o1 o2, TA.TS ((V.alloc o1).alloc o2) sa g.1) := fun o1 o2 => TA.ts_of (HG.out.s.bl (((Bl.refl V).alloc o1).alloc o2))
  have HO1 : Hid (((V.alloc (.cells #[] 3)).alloc (.cells #[] 9)).ownsRow V.heap.size 9 1 (.slice (some ⟨W.heap.size + 1 + 1, 0, none⟩) 0 0) ([] : List (List UInt8)).length (([] : List (List UInt8)).map encS)) := by
    have h := TA.own_new (V.alloc (.cells #[] 3)) [] (by unfold maxLen; simp)
    have e : (V.alloc (.cells #[] 3)).heap.size = W.heap.size + 1 + 1 := by simp [hVs]
    have h2 := ownsRow_base h (show V.heap.size ≤ _ by rw [e, hVs]; omega)
    rw [e] at h2
    exact h2
  have HO2 : Hid (((V.alloc (.cells #[] 3)).alloc (.cells #[] 9)).ownsRow V.heap.size 3 1 (.slice (some ⟨W.heap.size + 1, 0, none⟩) 0 0) ([] : List Nat).length (([] : List Nat).map encI)) := by
    have h := ownsRow_belowT (own_newI V) ((Bl.refl (V.alloc (.cells #[] 3))).alloc (.cells #[] 9))
    rw [show (some (⟨V.heap.size, 0, none⟩ : Addr)) = some ⟨W.heap.size + 1, 0, none⟩ by rw [hVs]] at h
    exact h
  have hsz : V.heap.size ≤ ((V.alloc (.cells #[] 3)).alloc (.cells #[] 9)).heap.size := by simp; omega
  have HB2 : Hid (Bl V ((V.alloc (.cells #[] 3)).alloc (.cells #[] 9))) := ((Bl.refl V).alloc _).alloc _
  have HF0 : Hid (∀ v5 w5, w5.ownsRow V.heap.size 9 1 v5 ([] ++ g.1).length (([] ++ g.1).map encS) → ((V.alloc (.cells #[] 3)).alloc (.cells #[] 9)).grownBy w5 (Value.slice (some ⟨W.heap.size + 1 + 1, 0, none⟩) 0 0).ownBlock → OD V (ordN g 0).1 (.slice (some ⟨W.heap.size + 1, 0, none⟩) 0 0) (ordN g 0).2 v5 w5) := fun v5 w5 h1 h2 =>
    ⟨ownsRow_grown HO2.out HO1.out (by decide) h2, h1, Below.grown HB2.out h2 hsz (fun q hq => (TA.owns_ge HO1.out hq).1)⟩
  clear hg hk HB HO2 HB2
  obtain ⟨fs, hum⟩ := undAc
  unfold gv
  rw [hV] at HTS HO1 hsz HF0
  have HVV : Hid (V = W.alloc (.cells #[.slice sa g.1.length sc, .slice aa g.2.length ac] 25)) := hV
  clear hV
  go_enter Try.func26, Try.ntmps26
  go_wp2_with (refine TA.wl_app rfl _ _ rfl (W.alloc (.cells #[.slice sa g.1.length sc, .slice aa g.2.length ac] 25)).heap.size [] (.slice (some ⟨W.heap.size + 1 + 1, 0, none⟩) 0 0) rfl HO1.out sa g.1 g.1.length sc rfl rfl (HTS.out _ _) hsz (by simp; omega) (fun v5 w5 ho5 hg5 => ?_); have HOD := HF0.out _ _ ho5 hg5; rw [← HVV.out] at HOD; have HOD5 : Hid (OD V (ordN g 0).1 (.slice (some ⟨W.heap.size + 1, 0, none⟩) 0 0) (ordN g 0).2 v5 w5) := HOD; clear HOD HF0 ho5 hg5 HO1 HTS hsz p1 HVV)
  generalize hbx : W.heap.size = bx at *
  clear hbx hVs
  go_loopw [3, 4, 5, 6, 7, 8, 9] (fun u3 u4 u5 u6 u7 u8 u9 wr => ∃ r : Nat, r ≤ g.2.length ∧ u5 = .int .i64 r ∧ OD V (ordN g r).1 u3 (ordN g r).2 u4 wr) (fun _ _ u5 _ _ _ _ _ => g.2.length - (intOf u5).toNat)
  case atStart => exact ⟨0, Nat.zero_le _, rfl, HOD5.out⟩
  case round =>
    obtain ⟨r, hr, rfl, hod⟩ := hrel
    have HOR : Hid (OD V (ordN g r).1 u3 (ordN g r).2 u4 wr) := hod
    have hlo := (ordN_len g r).1
    have hld := (ordN_len g r).2
    obtain ⟨p1, p2, p3⟩ := HC.out _ hod.b
    clear hod HOD5
    by_cases hlt : r < g.2.length
    · obtain ⟨da, dc, rfl⟩ := own_shape HOR.out.d
      obtain ⟨oa, oc, rfl⟩ := own_shape HOR.out.o
      have HNX : Hid (ordN g (r + 1) = ordS g (ordN g r)) := rfl
      generalize ordN g r = OX at *
      obtain ⟨O, D⟩ := OX
      simp only [] at hlo hld HOR
      go_wp2_with fail
      go_loopw [3, 4, 6, 7, 8, 9] (fun u3 u4 u6 u7 u8 u9 wr2 => ∃ i : Nat, i ≤ g.2.length ∧ u6 = .int .i64 i ∧ u3 = .slice oa O.length oc ∧ u4 = .slice da D.length dc ∧ (∀ j a, j < i → g.2[j]? = some a → rdy D a = false) ∧ OD V O (.slice oa O.length oc) D (.slice da D.length dc) wr2) (fun _ _ u6 _ _ _ _ => g.2.length - (intOf u6).toNat)
      case atStart => exact ⟨0, Nat.zero_le _, rfl, rfl, rfl, fun j a hj => by omega, HOR.out⟩
      case round =>
        obtain ⟨i, hi, rfl, rfl, rfl, hpre, hod⟩ := hrel
        have HP : Hid (∀ j a, j < i → g.2[j]? = some a → rdy D a = false) := hpre
        have HO : Hid (OD V O (.slice oa O.length oc) D (.slice da D.length dc) wr) := hod
        clear p1 p2 p3
        obtain ⟨p1, p2, p3⟩ := HC.out _ hod.b
        clear hod hpre HOR
        by_cases hli : i < g.2.length
        · obtain ⟨t, ht⟩ : ∃ t, g.2[i]? = some t := ⟨g.2[i], List.getElem?_eq_getElem hli⟩
          obtain ⟨ab, aoff, x, c, rfl, hab, hr3, hs⟩ := (HG.out.bl HO.out.b).a i t ht
          have hil := (HK.out.b t (List.mem_of_getElem? ht)).2.1
          have HS : Hid (∀ U, Bl wr U → SA U x t.2.1) := fun U hU => (Strs.sa (hs.bl hU)).2
          have HYES : Hid (rdy D t = true → ordN g (r + 1) = (O ++ [i], D ++ [t.1])) := fun h => by
            rw [HNX.out]
            unfold ordS
            have hf : g.2.findIdx? (rdy D) = some i := by
              rw [List.findIdx?_eq_some_iff_getElem]
              refine ⟨hli, ?_, fun j hj => ?_⟩
              · rw [List.getElem?_eq_getElem hli] at ht; cases ht; exact h
              · have := HP.out j g.2[j] hj (List.getElem?_eq_getElem (by omega))
                simp only [this, Bool.false_eq_true, not_false_eq_true]
            simp only []
            rw [hf]
            simp only []
            rw [TR.nmAt_of ht]
          have HE : Hid (rdy D t = false → ∀ j a, j < i + 1 → g.2[j]? = some a → rdy D a = false) := fun h j a hj ha => by
            rcases (by omega : j < i ∨ j = i) with h' | rfl
            · exact HP.out j a h' ha
            · rw [ht] at ha; cases ha; exact h
          have hi3 := infoAc t x c
          obtain ⟨n, ins, code⟩ := t
          unfold acL at hi3 hr3
          simp only [] at hi3 hr3 hil HS HYES HE
          unfold maxLen at hil
          have HR : Hid (wr.rangeAt ab (aoff + i * 3) [.string (M.bs n), .slice x ins.length c, .string (M.bs code)]) := hr3
          have HRA : Hid (rdK D (decide (n ∈ D)) ins ins.length = rdy D (n, ins, code)) := rdK_all D n ins code
          have HUB : Hid ((wr.alloc (.cells #[.string (M.bs n), .slice x ins.length c, .string (M.bs code)] 41)).heap[wr.heap.size]? = some (.cells #[.string (M.bs n), .slice x ins.length c, .string (M.bs code)] 41 (0, 0))) := heap_alloc_new _ _
          have HO2 : Hid (OD V O (.slice oa O.length oc) D (.slice da D.length dc) (wr.alloc (.cells #[.string (M.bs n), .slice x ins.length c, .string (M.bs code)] 41))) := HO.out.step ((Bl.refl wr).alloc _)
          have HSX : Hid (SA (wr.alloc (.cells #[.string (M.bs n), .slice x ins.length c, .string (M.bs code)] 41)) x ins) := HS.out _ ((Bl.refl wr).alloc _)
          have CI0 : Hid (Calls Try.prog 25 #[.slice da D.length dc, .string (M.bs n)] (wr.alloc (.cells #[.string (M.bs n), .slice x ins.length c, .string (M.bs code)] 41)) fun e w' => e = .returned (.bool (decide (n ∈ D))) ∧ w' = (wr.alloc (.cells #[.string (M.bs n), .slice x ins.length c, .string (M.bs code)] 41))) := rhas_at D da dc n _ HO2.out.sa (by unfold maxLen; omega)
          have CI1 : Hid (∀ s, Calls Try.prog 25 #[.slice da D.length dc, .string (M.bs s)] (wr.alloc (.cells #[.string (M.bs n), .slice x ins.length c, .string (M.bs code)] 41)) fun e w' => e = .returned (.bool (decide (s ∈ D))) ∧ w' = (wr.alloc (.cells #[.string (M.bs n), .slice x ins.length c, .string (M.bs code)] 41))) := fun s => rhas_at D da dc s _ HO2.out.sa (by unfold maxLen; omega)
          have HU : Hid (∀ T, wr.alloc (.cells #[.string (M.bs n), .slice x ins.length c, .string (M.bs code)] T) = wr.alloc (.cells #[.string (M.bs n), .slice x ins.length c, .string (M.bs code)] T)) := fun _ => rfl
          have c0 : (wr.alloc (.cells #[.string (M.bs n), .slice x ins.length c, .string (M.bs code)] 41)).cell? ⟨wr.heap.size, 0, none⟩ = some (.string (M.bs n)) := by rw [Lib.cell_of_heap (heap_alloc_new _ _)]; rfl
          have c1 : (wr.alloc (.cells #[.string (M.bs n), .slice x ins.length c, .string (M.bs code)] 41)).cell? ⟨wr.heap.size, 1, none⟩ = some (.slice x ins.length c) := by rw [Lib.cell_of_heap (heap_alloc_new _ _)]; rfl
          clear ht hr3 hs HS HO HP HU
          generalize hqn : decide (n ∈ D) = qn at *
          clear hqn
          go_wp2_with (first
            | (refine wpList_load_mid rfl 41 _ rfl ab (aoff + i * 3) rfl _ _ HR.out hum rfl hi3 ?_; clear HR)
            | (go_at_call 25; refine CI0.out.mono ?_; clear CI0; rintro e w' ⟨rfl, hw'⟩; rw [hw']; clear hw' w'))
          generalize (wr.alloc (.cells #[.string (M.bs n), .slice x ins.length c, .string (M.bs code)] 41)) = U at *
          generalize wr.heap.size = ub at *
          go_loop [8, 9] (fun u8 u9 => ∃ k : Nat, k ≤ ins.length ∧ u9 = .int .i64 k ∧ u8 = .bool (rdK D qn ins k)) (fun _ u9 => ins.length - (intOf u9).toNat)
          case atStart => exact ⟨0, Nat.zero_le _, rfl, by simp [rdK]⟩
          case round =>
            obtain ⟨k, hk, rfl, rfl⟩ := hrel
            by_cases hlk : k < ins.length
            · obtain ⟨s, hs⟩ : ∃ s, ins[k]? = some s := ⟨ins[k], List.getElem?_eq_getElem hlk⟩
              obtain ⟨b2, off2, rfl, hcell⟩ := HSX.out k s hs
              have HK2 : Hid (rdK D qn ins (k + 1) = (rdK D qn ins k && decide (s ∈ D))) := rdK_succ hs
              have CI2 : Hid (Calls Try.prog 25 #[.slice da D.length dc, .string (M.bs s)] U fun e w' => e = .returned (.bool (decide (s ∈ D))) ∧ w' = U) := CI1.out s
              clear hs
              generalize decide (s ∈ D) = q2 at *
              generalize rdK D qn ins k = q1 at *
              cases q1
              · go_wp2_with fail
                go_round
                case rel => exact ⟨k + 1, by omega, by go_num, by rw [HK2.out]; rfl⟩
                case measure => simp [intOf]; omega
              · go_wp2_with (go_at_call 25; refine CI2.out.mono ?_; clear CI2; rintro e w' ⟨rfl, hw'⟩; rw [hw']; clear hw' w')
                go_round
                case rel => exact ⟨k + 1, by omega, by go_num, by rw [HK2.out]; rfl⟩
                case measure => simp [intOf]; omega
            · obtain rfl : k = ins.length := by omega
              rw [HRA.out]
              generalize rdy D (n, ins, code) = qr at *
              cases qr
              · go_wp2_with fail
                go_roundw
                case rel => exact ⟨i + 1, by omega, by go_num, rfl, rfl, HE.out rfl, HO2.out⟩
                case measure => simp [intOf]; omega
              · have HNY : Hid (ordN g (r + 1) = (O ++ [i], D ++ [n])) := HYES.out rfl
                go_wp2_with (first
                  | (refine wl_odI rfl _ _ rfl O D (.slice da D.length dc) i (.slice oa O.length oc) rfl HO2.out ub _ HUB.out rfl (by omega) (fun a' c' w3 h1 h2 => ?_) rfl; have HO3 : Hid _ := h1; have d0 : w3.cell? ⟨ub, 0, none⟩ = some (.string (M.bs n)) := (by rw [Lib.cell_of_heap h2]; rfl); clear HO2 HUB h1 h2 c0 c1)
                  | (refine wl_odT rfl _ _ rfl (O ++ [i]) (.slice a' (O.length + 1) c') D n (.slice da D.length dc) rfl HO3.out rfl (by omega) (fun a'' c'' w4 h1 => ?_) rfl; have HO4 : Hid _ := h1; clear HO3 h1))
                go_roundw
                case rel => exact ⟨r + 1, by omega, by go_num, by rw [HNY.out]; exact HO4.out⟩
                case measure => simp [intOf]; omega
        · obtain rfl : i = g.2.length := by omega
          have hnx : ordN g (r + 1) = (O, D) := by
            rw [HNX.out]
            unfold ordS
            have hf : g.2.findIdx? (rdy D) = none := by
              rw [List.findIdx?_eq_none_iff]
              intro e he
              obtain ⟨i, hi, rfl⟩ := List.getElem_of_mem he
              exact HP.out i _ hi (List.getElem?_eq_getElem hi)
            simp only []
            rw [hf]
          have HNN : Hid (ordN g (r + 1) = (O, D)) := hnx
          clear hnx
          go_wp2_with fail
          go_roundw
          case rel => exact ⟨r + 1, by omega, by go_num, by rw [HNN.out]; exact HO.out⟩
          case measure => simp [intOf]; omega
    · obtain rfl : r = g.2.length := by omega
      go_wp2_with fail
      go_ret
      obtain ⟨a, c, e1, e2⟩ := ia_of HOR.out.o
      exact ⟨a, c, by rw [← e1]; rfl, e2, HBV.out.step HOR.out.b⟩
end Go.Proofs.Ythpdmeoljdmncaa

/- The reference's Check and Order. -/
namespace Go.Proofs.Ythpdmeoljdmncaa
open Go.RowKit
set_option linter.unusedVariables false
set_option linter.unusedSimpArgs false

theorem tk_succ {α : Type} {l : List α} {k : Nat} {t : α} (h : l[k]? = some t) : l.take (k + 1) = l.take k ++ [t] := by rw [List.take_add_one, h]; rfl
theorem not_nodup {l : List (List UInt8)} {k : Nat} {t : List UInt8} (h : l[k]? = some t) (hm : t ∈ l.take k) : ¬ l.Nodup := fun hn => by
  obtain ⟨i, hi, e⟩ := List.getElem_of_mem hm
  have h1 : l[i]? = some t := by
    have : (l.take k)[i]? = some t := by rw [List.getElem?_eq_getElem hi, e]
    rw [List.getElem?_take_of_lt (by simp at hi; omega)] at this
    exact this
  have := TR.getElem?_inj hn h1 h
  simp at hi; omega
theorem nodup_succ {l : List (List UInt8)} {k : Nat} {t : List UInt8} (h : l[k]? = some t) (hn : (l.take k).Nodup) (hm : t ∉ l.take k) : (l.take (k + 1)).Nodup := by
  rw [tk_succ h]
  exact List.nodup_append.2 ⟨hn, by simp, fun a ha b hb e => hm (by rw [List.mem_singleton.1 hb] at e; rw [← e]; exact ha)⟩

set_option maxRecDepth 8000 in
set_option maxHeartbeats 8000000 in
theorem rCheck_x (g : RC.Gr) (sa : Option Addr) (sc : Nat) (aa : Option Addr) (ac : Nat) {w W : World} (HB : Bl w W) (hg : GA W.heap.size W g sa sc aa ac) (hk : grOk g) :
    Calls Try.prog 12 #[.agg (gv g sa sc aa ac)] W fun e w' => e = .returned (.int .i64 (TR.chk g : Int)) ∧ Bl w w' := by
  obtain ⟨V, hV⟩ : ∃ V, V = W.alloc (.cells #[.slice sa g.1.length sc, .slice aa g.2.length ac] 25) := ⟨_, rfl⟩
  have HBV : Hid (Bl w V) := by rw [hV]; exact HB.alloc _
  have HC : Hid (∀ U, Bl V U → U.cell? ⟨W.heap.size, 0, none⟩ = some (.slice sa g.1.length sc) ∧ U.cell? ⟨W.heap.size, 1, none⟩ = some (.slice aa g.2.length ac) ∧ W.heap.size < U.heap.size) := fun U hU => by
    rw [hV] at hU
    obtain ⟨h1, h2, h3, _⟩ := rbox_cells hU
    exact ⟨h1, h2, h3⟩
  have HG : Hid (GA V.heap.size V g sa sc aa ac) := by rw [hV]; exact hg.bl ((Bl.refl W).alloc _)
  have HK : Hid (grOk g) := hk
  have CP : Hid (Calls Try.prog 24 #[.agg (gv g sa sc aa ac)] V fun e w' => e = .returned (prV g) ∧ Bl V w') := rPrint_x g sa sc aa ac (Bl.refl V) HG.out hk
  cases hc : RC.can g with
  | false =>
    have hck : TR.chk g = 1 := by unfold TR.chk; rw [if_pos hc]
    rw [hck]
    unfold prV at CP
    rw [hc] at CP
    rw [hV] at CP
    clear hg hk HB HG HK hck HC
    subst hV
    unfold gv at CP ⊢
    go_enter Try.func12, Try.ntmps12
    go_wp2_with (go_at_call 24; refine CP.out.mono ?_; clear CP; rintro e w1 ⟨rfl, HB1⟩)
    go_ret
    exact ⟨rfl, HBV.out.step HB1⟩
  | true =>
  obtain ⟨h8, h12⟩ := TR.can_le hc
  unfold prV at CP
  rw [hc] at CP
  simp only [cond_true] at CP
  have CO : Hid (∀ X U, Bl V X → Bl X U → Calls Try.prog 26 #[.agg (gv g sa sc aa ac)] U fun e w' => ∃ a c, e = .returned (.slice a (ordN g g.2.length).1.length c) ∧ IA w' a (ordN g g.2.length).1 ∧ Bl X w') := fun X U hX hU => rorder_x g sa sc aa ac hU (HG.out.bl (hX.step hU)) HK.out h8 h12
  have HCAN : Hid (RC.can g = true) := hc
  have HO0 : Hid (∀ X : World, (X.alloc (.cells #[] 9)).ownsRow X.heap.size 9 1 (.slice (some ⟨X.heap.size, 0, none⟩) 0 0) 0 (((TR.nm g).take 0).map encS)) := fun X => TA.own_new X [] (by unfold maxLen; simp)
  have HVV : Hid (V = W.alloc (.cells #[.slice sa g.1.length sc, .slice aa g.2.length ac] 25)) := hV
  rw [hV] at CP
  clear hg hk HB hc hV
  unfold gv at CP CO ⊢
  generalize RC.text g = TXT at CP
  go_enter Try.func12, Try.ntmps12
  go_wp2_with (go_at_call 24; refine CP.out.mono ?_; clear CP; rintro e w1 ⟨rfl, HB1⟩; rw [← HVV.out] at HB1; have HBX : Hid (Bl V w1) := HB1; clear HB1 HVV)
  have HO1 : Hid ((w1.alloc (.cells #[] 9)).ownsRow w1.heap.size 9 1 (.slice (some ⟨w1.heap.size, 0, none⟩) 0 0) 0 (((TR.nm g).take 0).map encS)) := HO0.out w1
  have HB10 : Hid (Bl w1 (w1.alloc (.cells #[] 9))) := (Bl.refl w1).alloc _
  clear HO0
  generalize hbx : W.heap.size = bx at *
  clear hbx
  go_loopw [5, 6] (fun u5 u6 wr => ∃ (k : Nat) (na : Option Addr) (nc : Nat), k ≤ g.1.length ∧ u6 = .int .i64 k ∧ u5 = .slice na k nc ∧ wr.ownsRow w1.heap.size 9 1 (.slice na k nc) k (((TR.nm g).take k).map encS) ∧ Bl w1 wr ∧ ((TR.nm g).take k).Nodup) (fun _ u6 _ => g.1.length - (intOf u6).toNat)
  case atStart => exact ⟨0, _, _, Nat.zero_le _, rfl, rfl, HO1.out, HB10.out, by simp⟩
  case round =>
    obtain ⟨k, na, nc, hk, rfl, rfl, ho, hb, hnd⟩ := hrel
    have HO : Hid (wr.ownsRow w1.heap.size 9 1 (.slice na k nc) k (((TR.nm g).take k).map encS)) := ho
    have HB : Hid (Bl w1 wr) := hb
    have HND : Hid (((TR.nm g).take k).Nodup) := hnd
    obtain ⟨p1, p2, p3⟩ := HC.out _ (HBX.out.step hb)
    clear ho hb hnd HO1 HB10
    by_cases hlt : k < g.1.length
    · obtain ⟨t, ht⟩ : ∃ t, g.1[k]? = some t := ⟨g.1[k], List.getElem?_eq_getElem hlt⟩
      have htn : (TR.nm g)[k]? = some t := by rw [TR.nm_src hlt]; exact ht
      have hln : ((TR.nm g).take k).length = k := by rw [List.length_take, TR.nm_len]; omega
      obtain ⟨b, off, rfl, hb0, hc0⟩ := TA.ts_of HG.out.s k t ht
      have hcell : wr.cell? ⟨b, off + k, none⟩ = some (.string (M.bs t)) := by rw [Bl.cell (HBX.out.step HB.out) hb0]; exact hc0
      have CI : Hid (Calls Try.prog 25 #[.slice na k nc, .string (M.bs t)] wr fun e w' => e = .returned (.bool (decide (t ∈ (TR.nm g).take k))) ∧ w' = wr) := by
        have hts : TA.TS wr na ((TR.nm g).take k) := ts_own (own_len hln.symm HO.out)
        have := rhas_at ((TR.nm g).take k) na nc t wr (fun i s hs => by obtain ⟨b, off, h1, _, h3⟩ := hts i s hs; exact ⟨b, off, h1, h3⟩) (by unfold maxLen; omega)
        rw [hln] at this
        exact this
      have HLN : Hid (k = ((TR.nm g).take k).length) := hln.symm
      have HSU : Hid ((TR.nm g).take (k + 1) = (TR.nm g).take k ++ [t]) := tk_succ htn
      by_cases hm : t ∈ (TR.nm g).take k
      · have HCK : Hid (TR.chk g = 21) := by
          show _ = _
          unfold TR.chk; rw [if_neg (by simp [HCAN.out]), if_pos (not_nodup htn hm)]
        rw [decide_eq_true hm] at CI
        clear ht htn hln hc0 hb0 HSU HLN hm
        go_wp2_with (go_at_call 25; refine CI.out.mono ?_; clear CI; rintro e w' ⟨rfl, hw'⟩; rw [hw']; clear hw' w')
        go_ret
        exact ⟨by rw [HCK.out]; rfl, HBV.out.step (HBX.out.step HB.out)⟩
      · have HN2 : Hid (((TR.nm g).take (k + 1)).Nodup) := nodup_succ htn HND.out hm
        rw [decide_eq_false hm] at CI
        clear ht htn hln hc0 hb0 hm
        go_wp2_with (first
          | (go_at_call 25; refine CI.out.mono ?_; clear CI; rintro e w' ⟨rfl, hw'⟩; rw [hw']; clear hw' w')
          | (refine wl_app1 rfl _ _ rfl k ((TR.nm g).take k) HLN.out _ (.slice na k nc) rfl HB.out HO.out rfl (by omega) (fun a' c' w' h1 h2 => ?_) rfl; have HO2 : Hid _ := h1; have HB2 : Hid _ := h2; clear HO HB h1 h2))
        go_roundw
        case rel => exact ⟨k + 1, a', c', by omega, by go_num, rfl, by rw [HSU.out]; exact HO2.out, HB2.out, HN2.out⟩
        case measure => simp [intOf]; omega
    · obtain rfl : k = g.1.length := by omega
      go_wp2_with fail
      have HO1 : Hid (wr.ownsRow w1.heap.size 9 1 (.slice na (g.1.length + 0) nc) (g.1.length + 0) (((TR.nm g).take (g.1.length + 0)).map encS)) := HO.out
      have HB1 : Hid (Bl w1 wr) := HB.out
      have HN1 : Hid (((TR.nm g).take (g.1.length + 0)).Nodup) := HND.out
      clear HO HB HND p1 p2 p3
      go_loopw [5, 7] (fun u5 u7 wr => ∃ (k : Nat) (na : Option Addr) (nc : Nat), k ≤ g.2.length ∧ u7 = .int .i64 k ∧ u5 = .slice na (g.1.length + k) nc ∧ wr.ownsRow w1.heap.size 9 1 (.slice na (g.1.length + k) nc) (g.1.length + k) (((TR.nm g).take (g.1.length + k)).map encS) ∧ Bl w1 wr ∧ ((TR.nm g).take (g.1.length + k)).Nodup) (fun _ u7 _ => g.2.length - (intOf u7).toNat)
      case atStart => exact ⟨0, _, _, Nat.zero_le _, rfl, rfl, HO1.out, HB1.out, HN1.out⟩
      case round =>
        clear HO1 HB1 HN1
        obtain ⟨k, na, nc, hk, rfl, rfl, ho, hb, hnd⟩ := hrel
        have HO : Hid (wr.ownsRow w1.heap.size 9 1 (.slice na (g.1.length + k) nc) (g.1.length + k) (((TR.nm g).take (g.1.length + k)).map encS)) := ho
        have HB : Hid (Bl w1 wr) := hb
        have HND : Hid (((TR.nm g).take (g.1.length + k)).Nodup) := hnd
        obtain ⟨p1, p2, p3⟩ := HC.out _ (HBX.out.step hb)
        clear ho hb hnd
        by_cases hlt : k < g.2.length
        · obtain ⟨t, ht⟩ : ∃ t, g.2[k]? = some t := ⟨g.2[k], List.getElem?_eq_getElem hlt⟩
          have htn : (TR.nm g)[g.1.length + k]? = some t.1 := TR.nm_act ht
          have hln : ((TR.nm g).take (g.1.length + k)).length = g.1.length + k := by rw [List.length_take, TR.nm_len]; omega
          obtain ⟨b, off, x, c, rfl, hcs⟩ := acts_cells (U := V) HG.out.a ht
          obtain ⟨hcell, _, _⟩ := hcs _ (HBX.out.step HB.out)
          have CI : Hid (Calls Try.prog 25 #[.slice na (g.1.length + k) nc, .string (M.bs t.1)] wr fun e w' => e = .returned (.bool (decide (t.1 ∈ (TR.nm g).take (g.1.length + k)))) ∧ w' = wr) := by
            have hts : TA.TS wr na ((TR.nm g).take (g.1.length + k)) := ts_own (own_len hln.symm HO.out)
            have := rhas_at ((TR.nm g).take (g.1.length + k)) na nc t.1 wr (fun i s hs => by obtain ⟨b, off, h1, _, h3⟩ := hts i s hs; exact ⟨b, off, h1, h3⟩) (by unfold maxLen; omega)
            rw [hln] at this
            exact this
          have HLN : Hid (g.1.length + k = ((TR.nm g).take (g.1.length + k)).length) := hln.symm
          have HSU : Hid ((TR.nm g).take (g.1.length + (k + 1)) = (TR.nm g).take (g.1.length + k) ++ [t.1]) := tk_succ htn
          by_cases hm : t.1 ∈ (TR.nm g).take (g.1.length + k)
          · have HCK : Hid (TR.chk g = 21) := by
              show _ = _
              unfold TR.chk; rw [if_neg (by simp [HCAN.out]), if_pos (not_nodup htn hm)]
            rw [decide_eq_true hm] at CI
            clear ht htn hln hcs HSU HLN hm
            go_wp2_with (go_at_call 25; refine CI.out.mono ?_; clear CI; rintro e w' ⟨rfl, hw'⟩; rw [hw']; clear hw' w')
            go_ret
            exact ⟨by rw [HCK.out]; rfl, HBV.out.step (HBX.out.step HB.out)⟩
          · have HN2 : Hid (((TR.nm g).take (g.1.length + (k + 1))).Nodup) := nodup_succ htn HND.out hm
            rw [decide_eq_false hm] at CI
            clear ht htn hln hcs hm
            generalize t.1 = tn at *
            go_wp2_with (first
              | (go_at_call 25; refine CI.out.mono ?_; clear CI; rintro e w' ⟨rfl, hw'⟩; rw [hw']; clear hw' w')
              | (refine wl_app1 rfl _ _ rfl (g.1.length + k) ((TR.nm g).take (g.1.length + k)) HLN.out _ (.slice na (g.1.length + k) nc) rfl HB.out HO.out rfl (by omega) (fun a' c' w' h1 h2 => ?_) rfl; have HO2 : Hid _ := h1; have HB2 : Hid _ := h2; clear HO HB h1 h2))
            go_roundw
            case rel => exact ⟨k + 1, a', c', by omega, by go_num, rfl, by rw [HSU.out]; exact HO2.out, HB2.out, HN2.out⟩
            case measure => simp [intOf]; omega
        · obtain rfl : k = g.2.length := by omega
          go_wp2_with fail
          have hall : (TR.nm g).take (g.1.length + g.2.length) = TR.nm g := List.take_of_length_le (by rw [TR.nm_len]; omega)
          rw [hall] at HO HND
          have HTS : Hid (TA.TS wr na (TR.nm g)) := ts_own (own_len (TR.nm_len g).symm HO.out)
          have CI : Hid (∀ s, Calls Try.prog 25 #[.slice na (g.1.length + g.2.length) nc, .string (M.bs s)] wr fun e w' => e = .returned (.bool (decide (s ∈ TR.nm g))) ∧ w' = wr) := fun s => by
            have := rhas_at (TR.nm g) na nc s wr (fun i s hs => by obtain ⟨b, off, h1, _, h3⟩ := HTS.out i s hs; exact ⟨b, off, h1, h3⟩) (by rw [TR.nm_len]; unfold maxLen; omega)
            rw [TR.nm_len] at this
            exact this
          clear HO hall HTS
          go_loop [8, 9] (fun u8 u9 => ∃ i : Nat, i ≤ g.2.length ∧ u8 = .int .i64 i ∧ ∀ j a, j < i → g.2[j]? = some a → TR.missA (TR.nm g) a = false) (fun u8 _ => g.2.length - (intOf u8).toNat)
          case atStart => exact ⟨0, Nat.zero_le _, rfl, fun j a hj => by omega⟩
          case round =>
            obtain ⟨i, hi, rfl, hpre⟩ := hrel
            have HP : Hid (∀ j a, j < i → g.2[j]? = some a → TR.missA (TR.nm g) a = false) := hpre
            clear hpre
            by_cases hli : i < g.2.length
            · obtain ⟨t, ht⟩ : ∃ t, g.2[i]? = some t := ⟨g.2[i], List.getElem?_eq_getElem hli⟩
              obtain ⟨b, off, x, c, rfl, hcs⟩ := acts_cells (U := V) HG.out.a ht
              obtain ⟨_, hcell, hts⟩ := hcs _ (HBX.out.step HB.out)
              have HTX : Hid (TA.TS wr x t.2.1) := hts
              have hil := (HK.out.b t (List.mem_of_getElem? ht)).2.1
              unfold maxLen at hil
              have HF : Hid (TR.missA (TR.nm g) t = true → TR.chk g = 22) := fun h => by
                unfold TR.chk
                rw [if_neg (by simp [HCAN.out]), if_neg (by simpa using HND.out), if_pos]
                exact List.any_eq_true.2 ⟨t, List.mem_of_getElem? ht, h⟩
              have HE : Hid (TR.missA (TR.nm g) t = false → ∀ j a, j < i + 1 → g.2[j]? = some a → TR.missA (TR.nm g) a = false) := fun h j a hj ha => by
                rcases (by omega : j < i ∨ j = i) with h' | rfl
                · exact HP.out j a h' ha
                · rw [ht] at ha; cases ha; exact h
              obtain ⟨tn, ins, code⟩ := t
              simp only [] at hil hcell HTX
              clear ht hcs hts
              go_wp2_with fail
              go_loop [9] (fun u9 => ∃ k : Nat, k ≤ ins.length ∧ u9 = .int .i64 k ∧ ∀ j s, j < k → ins[j]? = some s → s ∈ TR.nm g) (fun u9 => ins.length - (intOf u9).toNat)
              case atStart => exact ⟨0, Nat.zero_le _, rfl, fun j s hj => by omega⟩
              case round =>
                obtain ⟨k, hk9, rfl, hpre⟩ := hrel
                have HPK : Hid (∀ j s, j < k → ins[j]? = some s → s ∈ TR.nm g) := hpre
                clear hpre
                by_cases hlk : k < ins.length
                · obtain ⟨s, hs⟩ : ∃ s, ins[k]? = some s := ⟨ins[k], List.getElem?_eq_getElem hlk⟩
                  obtain ⟨b2, off2, rfl, _, hcell2⟩ := HTX.out k s hs
                  have CI3 : Hid (Calls Try.prog 25 #[.slice na (g.1.length + g.2.length) nc, .string (M.bs s)] wr fun e w' => e = .returned (.bool (decide (s ∈ TR.nm g))) ∧ w' = wr) := CI.out s
                  by_cases hm : s ∈ TR.nm g
                  · have HE2 : Hid (∀ j s, j < k + 1 → ins[j]? = some s → s ∈ TR.nm g) := fun j s' hj hs' => by
                      rcases (by omega : j < k ∨ j = k) with h' | rfl
                      · exact HPK.out j s' h' hs'
                      · rw [hs] at hs'; cases hs'; exact hm
                    rw [decide_eq_true hm] at CI3
                    clear hs hm
                    go_wp2_with (go_at_call 25; refine CI3.out.mono ?_; clear CI3; rintro e w' ⟨rfl, hw'⟩; rw [hw']; clear hw' w')
                    go_round
                    case rel => exact ⟨k + 1, by omega, by go_num, HE2.out⟩
                    case measure => simp [intOf]; omega
                  · have HCK : Hid (TR.chk g = 22) := HF.out (by
                      refine List.any_eq_true.2 ⟨s, List.mem_of_getElem? hs, by simp [hm]⟩)
                    rw [decide_eq_false hm] at CI3
                    clear hs hm
                    go_wp2_with (go_at_call 25; refine CI3.out.mono ?_; clear CI3; rintro e w' ⟨rfl, hw'⟩; rw [hw']; clear hw' w')
                    go_ret
                    exact ⟨by rw [HCK.out]; rfl, HBV.out.step (HBX.out.step HB.out)⟩
                · obtain rfl : k = ins.length := by omega
                  have HE2 : Hid (∀ j a, j < i + 1 → g.2[j]? = some a → TR.missA (TR.nm g) a = false) := HE.out (by
                    refine List.any_eq_false.2 fun s hs => ?_
                    obtain ⟨j, hj, rfl⟩ := List.getElem_of_mem hs
                    simp [HPK.out j _ hj (List.getElem?_eq_getElem hj)])
                  go_wp2_with fail
                  go_round
                  case rel => exact ⟨i + 1, by omega, by go_num, HE2.out⟩
                  case measure => simp [intOf]; omega
            · obtain rfl : i = g.2.length := by omega
              have HMS : Hid (TR.miss g = false) := by
                show _ = _
                unfold TR.miss
                rw [List.any_eq_false]
                intro a ha
                obtain ⟨j, hj, rfl⟩ := List.getElem_of_mem ha
                rw [HP.out j _ hj (List.getElem?_eq_getElem hj)]
                simp
              have HCK : Hid (TR.chk g = if (ordN g g.2.length).1.length = g.2.length then 0 else 23) := chk_ord HCAN.out HND.out HMS.out
              have KP : Hid (∀ U, Bl wr U → U.cell? ⟨bx, 0, none⟩ = some (.slice sa g.1.length sc) ∧ U.cell? ⟨bx, 1, none⟩ = some (.slice aa g.2.length ac)) := fun U hU => by
                obtain ⟨h1, h2, _⟩ := HC.out U (HBX.out.step (HB.out.step hU))
                exact ⟨h1, h2⟩
              have CO2 : Hid (∀ U, Bl wr U → Calls Try.prog 26 #[.agg #[.slice sa g.1.length sc, .slice aa g.2.length ac]] U fun e w' => ∃ a c, e = .returned (.slice a (ordN g g.2.length).1.length c) ∧ IA w' a (ordN g g.2.length).1 ∧ Bl wr w') := fun U hU => CO.out wr U (HBX.out.step HB.out) hU
              have HBF : Hid (∀ U, Bl wr U → Bl w U) := fun U hU => HBV.out.step (HBX.out.step (HB.out.step hU))
              have hol := (ordN_len g g.2.length).1
              clear CO HMS HND HP CI
              by_cases hq : (ordN g g.2.length).1.length = g.2.length
              · have HCZ : Hid (TR.chk g = 0) := by
                  show _ = _
                  rw [HCK.out, if_pos hq]
                rw [hq] at CO2
                have hqq : ((g.2.length : Int) != (g.2.length : Int)) = false := by simp
                clear HCK hq hol
                go_wp2_with fail
                refine wp_region_noPanic ?_
                refine wp_region_held_drew (S := fun U => U.cell? ⟨bx, 0, none⟩ = some (.slice sa g.1.length sc) ∧ U.cell? ⟨bx, 1, none⟩ = some (.slice aa g.2.length ac)) (by kernel_rfl) (KP.out _ ((Bl.refl wr).drewN 1)) (fun hHeld => ?_)
                refine wpAnyH_take (i := 0) (v := ?_) rfl (by kernel_rfl) (by kernel_rfl) (by kernel_rfl) (fun _ _ _ h => h) (Or.inl ⟨by kernel_rfl, ?_⟩) (by assumption) ?_
                rotate_left
                · (intro w hSw; (try dsimp only at hSw); go_simp; (try with_reducible rfl))
                simp only [Act.put, List.getElem_toArray, List.getElem_cons_succ, List.getElem_cons_zero, List.setIfInBounds_toArray, List.set_cons_zero, List.set_cons_succ]
                refine wpAnyH_take (i := 3) (v := ?_) rfl (by kernel_rfl) (by kernel_rfl) (by kernel_rfl) (fun _ _ _ h => h) (Or.inl ⟨by kernel_rfl, ?_⟩) (by assumption) ?_
                rotate_left
                · (intro w hSw; (try dsimp only at hSw); go_simp; (try with_reducible rfl))
                simp only [Act.put, List.getElem_toArray, List.getElem_cons_succ, List.getElem_cons_zero, List.setIfInBounds_toArray, List.set_cons_zero, List.set_cons_succ]
                refine wpAnyH_take (i := 4) (v := ?_) rfl (by kernel_rfl) (by kernel_rfl) (by kernel_rfl) (fun _ _ _ h => h) (Or.inl ⟨by kernel_rfl, ?_⟩) (by assumption) ?_
                rotate_left
                · (intro w hSw; (try dsimp only at hSw); go_simp; (try with_reducible rfl))
                simp only [Act.put, List.getElem_toArray, List.getElem_cons_succ, List.getElem_cons_zero, List.setIfInBounds_toArray, List.set_cons_zero, List.set_cons_succ]
                refine wpAnyH_take (i := 5) (v := ?_) rfl (by kernel_rfl) (by kernel_rfl) (by kernel_rfl) (fun _ _ _ h => h) (Or.inl ⟨by kernel_rfl, ?_⟩) (by assumption) ?_
                rotate_left
                · (intro w hSw; (try dsimp only at hSw); go_simp; (try with_reducible rfl))
                simp only [Act.put, List.getElem_toArray, List.getElem_cons_succ, List.getElem_cons_zero, List.setIfInBounds_toArray, List.set_cons_zero, List.set_cons_succ]
                refine wpAnyH_ready (rs := [1]) (by kernel_rfl) (by simp) ?_
                refine AllReadyH.cons (o := _) rfl (fun K hK => ?_) AllReadyH.nil
                go_simp
                go_at_call 26; refine (CO2.out _ ((Bl.refl wr).drewN 1)).mono ?_; rintro e wn ⟨xb, xd, rfl, HTX, HB5⟩
                refine hK.out _ _ (KP.out _ HB5) (fun hHeld => ?_)
                clear hK K
                (try simp only [Act.put, List.getElem_toArray, List.getElem_cons_succ, List.getElem_cons_zero, List.setIfInBounds_toArray, List.set_cons_zero, List.set_cons_succ])
                refine wpAnyH_take (i := 2) (v := ?_) rfl (by kernel_rfl) (by kernel_rfl) (by kernel_rfl) (fun _ _ _ h => h) (Or.inl ⟨by kernel_rfl, ?_⟩) (by assumption) ?_
                rotate_left
                · (intro w hSw; (try dsimp only at hSw); go_simp; (try with_reducible rfl))
                simp only [Act.put, List.getElem_toArray, List.getElem_cons_succ, List.getElem_cons_zero, List.setIfInBounds_toArray, List.set_cons_zero, List.set_cons_succ]
                refine wpAnyH_take (i := 6) (v := ?_) rfl (by kernel_rfl) (by kernel_rfl) (by kernel_rfl) (fun _ _ _ h => h) (Or.inl ⟨by kernel_rfl, ?_⟩) (by assumption) ?_
                rotate_left
                · (intro w hSw; (try dsimp only at hSw); go_simp; (try with_reducible rfl))
                simp only [Act.put, List.getElem_toArray, List.getElem_cons_succ, List.getElem_cons_zero, List.setIfInBounds_toArray, List.set_cons_zero, List.set_cons_succ]
                refine wpAnyH_done (by kernel_rfl) ?_ _
                refine NoPanic.normal ?_
                go_wp2_with fail
                go_ret
                exact ⟨by rw [HCZ.out]; rfl, HBF.out _ (by assumption)⟩
              · have HCZ : Hid (TR.chk g = 23) := by
                  show _ = _
                  rw [HCK.out, if_neg hq]
                have hqq : (((ordN g g.2.length).1.length : Int) != (g.2.length : Int)) = true := by rw [bne_iff_ne]; omega
                generalize (ordN g g.2.length).1.length = ol at *
                clear HCK hq
                go_wp2_with fail
                refine wp_region_noPanic ?_
                refine wp_region_held_drew (S := fun U => U.cell? ⟨bx, 0, none⟩ = some (.slice sa g.1.length sc) ∧ U.cell? ⟨bx, 1, none⟩ = some (.slice aa g.2.length ac)) (by kernel_rfl) (KP.out _ ((Bl.refl wr).drewN 1)) (fun hHeld => ?_)
                refine wpAnyH_take (i := 0) (v := ?_) rfl (by kernel_rfl) (by kernel_rfl) (by kernel_rfl) (fun _ _ _ h => h) (Or.inl ⟨by kernel_rfl, ?_⟩) (by assumption) ?_
                rotate_left
                · (intro w hSw; (try dsimp only at hSw); go_simp; (try with_reducible rfl))
                simp only [Act.put, List.getElem_toArray, List.getElem_cons_succ, List.getElem_cons_zero, List.setIfInBounds_toArray, List.set_cons_zero, List.set_cons_succ]
                refine wpAnyH_take (i := 3) (v := ?_) rfl (by kernel_rfl) (by kernel_rfl) (by kernel_rfl) (fun _ _ _ h => h) (Or.inl ⟨by kernel_rfl, ?_⟩) (by assumption) ?_
                rotate_left
                · (intro w hSw; (try dsimp only at hSw); go_simp; (try with_reducible rfl))
                simp only [Act.put, List.getElem_toArray, List.getElem_cons_succ, List.getElem_cons_zero, List.setIfInBounds_toArray, List.set_cons_zero, List.set_cons_succ]
                refine wpAnyH_take (i := 4) (v := ?_) rfl (by kernel_rfl) (by kernel_rfl) (by kernel_rfl) (fun _ _ _ h => h) (Or.inl ⟨by kernel_rfl, ?_⟩) (by assumption) ?_
                rotate_left
                · (intro w hSw; (try dsimp only at hSw); go_simp; (try with_reducible rfl))
                simp only [Act.put, List.getElem_toArray, List.getElem_cons_succ, List.getElem_cons_zero, List.setIfInBounds_toArray, List.set_cons_zero, List.set_cons_succ]
                refine wpAnyH_take (i := 5) (v := ?_) rfl (by kernel_rfl) (by kernel_rfl) (by kernel_rfl) (fun _ _ _ h => h) (Or.inl ⟨by kernel_rfl, ?_⟩) (by assumption) ?_
                rotate_left
                · (intro w hSw; (try dsimp only at hSw); go_simp; (try with_reducible rfl))
                simp only [Act.put, List.getElem_toArray, List.getElem_cons_succ, List.getElem_cons_zero, List.setIfInBounds_toArray, List.set_cons_zero, List.set_cons_succ]
                refine wpAnyH_ready (rs := [1]) (by kernel_rfl) (by simp) ?_
                refine AllReadyH.cons (o := _) rfl (fun K hK => ?_) AllReadyH.nil
                go_simp
                go_at_call 26; refine (CO2.out _ ((Bl.refl wr).drewN 1)).mono ?_; rintro e wn ⟨xb, xd, rfl, HTX, HB5⟩
                refine hK.out _ _ (KP.out _ HB5) (fun hHeld => ?_)
                clear hK K
                (try simp only [Act.put, List.getElem_toArray, List.getElem_cons_succ, List.getElem_cons_zero, List.setIfInBounds_toArray, List.set_cons_zero, List.set_cons_succ])
                refine wpAnyH_take (i := 2) (v := ?_) rfl (by kernel_rfl) (by kernel_rfl) (by kernel_rfl) (fun _ _ _ h => h) (Or.inl ⟨by kernel_rfl, ?_⟩) (by assumption) ?_
                rotate_left
                · (intro w hSw; (try dsimp only at hSw); go_simp; (try with_reducible rfl))
                simp only [Act.put, List.getElem_toArray, List.getElem_cons_succ, List.getElem_cons_zero, List.setIfInBounds_toArray, List.set_cons_zero, List.set_cons_succ]
                refine wpAnyH_take (i := 6) (v := ?_) rfl (by kernel_rfl) (by kernel_rfl) (by kernel_rfl) (fun _ _ _ h => h) (Or.inl ⟨by kernel_rfl, ?_⟩) (by assumption) ?_
                rotate_left
                · (intro w hSw; (try dsimp only at hSw); go_simp; (try with_reducible rfl))
                simp only [Act.put, List.getElem_toArray, List.getElem_cons_succ, List.getElem_cons_zero, List.setIfInBounds_toArray, List.set_cons_zero, List.set_cons_succ]
                refine wpAnyH_done (by kernel_rfl) ?_ _
                refine NoPanic.normal ?_
                go_wp2_with fail
                go_ret
                exact ⟨by rw [HCZ.out]; rfl, HBF.out _ (by assumption)⟩

set_option maxRecDepth 8000 in
set_option maxHeartbeats 2000000 in
theorem rOrder_x (g : RC.Gr) (sa : Option Addr) (sc : Nat) (aa : Option Addr) (ac : Nat) {w W : World} (HB : Bl w W) (hg : GA W.heap.size W g sa sc aa ac) (hk : grOk g) :
    Calls Try.prog 15 #[.agg (gv g sa sc aa ac)] W fun e w' => ∃ a c, e = .returned (.slice a (ordL g).length c) ∧ IA w' a (ordL g) ∧ Bl w w' := by
  have HC : Hid (∀ T U, Bl (W.alloc (.cells #[.slice sa g.1.length sc, .slice aa g.2.length ac] T)) U → U.cell? ⟨W.heap.size, 0, none⟩ = some (.slice sa g.1.length sc) ∧ U.cell? ⟨W.heap.size, 1, none⟩ = some (.slice aa g.2.length ac) ∧ W.heap.size < U.heap.size ∧ Bl W U) := fun T U hU => rbox_cells hU
  have HBV : Hid (∀ o U, Bl (W.alloc o) U → Bl w U) := fun o U hU => (HB.alloc o).step hU
  have CC : Hid (∀ o, Calls Try.prog 12 #[.agg (gv g sa sc aa ac)] (W.alloc o) fun e w' => e = .returned (.int .i64 (TR.chk g : Int)) ∧ Bl (W.alloc o) w') := fun o =>
    rCheck_x g sa sc aa ac (Bl.refl _) (hg.bl ((Bl.refl W).alloc o)) hk
  by_cases hck : TR.chk g = 0
  · have hG := TR.chk_zero.1 hck
    have CO : Hid (∀ o U, Bl (W.alloc o) U → Calls Try.prog 26 #[.agg (gv g sa sc aa ac)] U fun e w' => ∃ a c, e = .returned (.slice a (ordN g g.2.length).1.length c) ∧ IA w' a (ordN g g.2.length).1 ∧ Bl (W.alloc o) w') := fun o U hU =>
      rorder_x g sa sc aa ac hU (hg.bl (((Bl.refl W).alloc o).step hU)) hk hG.le.1 hG.le.2
    have ho : ordL g = (ordN g g.2.length).1 := by unfold ordL; rw [if_pos hck, ord_good hG]
    rw [hck] at CC
    rw [← ho] at CO
    clear hg hk HB hck hG ho
    unfold gv at CC CO ⊢
    go_enter Try.func15, Try.ntmps15
    go_wp2_with (first
      | (go_at_call 12; refine (CC.out _).mono ?_; clear CC; rintro e w1 ⟨rfl, HB1⟩; obtain ⟨p1, p2, p3, p4⟩ := HC.out _ _ HB1)
      | (go_at_call 26; refine (CO.out _ _ HB1).mono ?_; clear CO p1 p2 p3 p4; rintro e w2 ⟨xa, xc, rfl, HI, HB2⟩))
    go_ret
    exact ⟨xa, xc, rfl, HI, HBV.out _ _ HB2⟩
  · have ho : ordL g = [] := by unfold ordL; rw [if_neg hck]
    rw [ho]
    have hq1 : ((TR.chk g : Int) != 0) = true := by rw [bne_iff_ne]; omega
    clear hg hk HB hck ho
    generalize TR.chk g = ck at *
    unfold gv at CC ⊢
    go_enter Try.func15, Try.ntmps15
    go_wp2_with (go_at_call 12; refine (CC.out _).mono ?_; clear CC; rintro e w1 ⟨rfl, HB1⟩; obtain ⟨p1, p2, p3, p4⟩ := HC.out _ _ HB1)
    go_ret
    exact ⟨none, 0, rfl, fun i x hx => by simp at hx, HBV.out _ _ HB1⟩
end Go.Proofs.Ythpdmeoljdmncaa
