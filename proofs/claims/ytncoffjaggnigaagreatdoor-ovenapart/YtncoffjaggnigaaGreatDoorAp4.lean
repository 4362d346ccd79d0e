/- OvenApart: the walk. -/
import Derived.Test.YtncoffjaggnigaaGreatDoorAp3
import Derived.Test.YtncoffjaggnigaaGreatDoorAw9
import Derived.Deep.CutBlock
import Derived.Deep.DeepCutAuto
namespace Go.Proofs.YtncoffjaggnigaaGreatDoor
open Go.RowKit
set_option linter.unusedVariables false
set_option linter.unusedSimpArgs false
attribute [local go_sem ↓] zero27

theorem eqReA (c c' : Int) (t t' : List UInt8) (W : World) : (Op.equalIn 10000 47 (.agg #[.int .i64 c, .string (M.bs t)]) (.agg #[.int .i64 c', .string (M.bs t')])).run Tryz.prog W = .ok (decide (c = c' ∧ t = t')) W := by
  have hS : Tryz.prog.underlying 47 = some (.struct (Tryz.prog.fieldsOf 47)) := by kernel_rfl
  have hp : Tryz.prog.stoodInHeld 47 = false := by kernel_rfl
  rw [show (10000 : Nat) = 9998 + 1 + 1 from rfl, run_equalIn_struct W (9998 + 1) 47 _ _ hS hp]
  simp only [Program.fieldsOf, Tryz.underlying47, Op.eqFields]
  have p1 := fun (c : Int) (t : List UInt8) W => part_one (t := 30) Tryz.isAgg30 #[.int .i64 c, .string (M.bs t)] 0 (.int .i64 c) rfl W
  have p2 := fun (c : Int) (t : List UInt8) W => part_one (t := 9) Tryz.isAgg9 #[.int .i64 c, .string (M.bs t)] 1 (.string (M.bs t)) rfl W
  have h1 : ∀ W, (Op.equalIn (9998 + 1) 30 (.int .i64 c) (.int .i64 c')).run Tryz.prog W = .ok (c == c') W := fun W => run_equalIn_int W 9998 30 .i64 .i64 c c' Tryz.underlying30
  have h2 : ∀ W, (Op.equalIn (9998 + 1) 9 (.string (M.bs t)) (.string (M.bs t'))).run Tryz.prog W = .ok ((M.bs t).toList == (M.bs t').toList) W := fun W => run_equalIn_string W 9998 9 _ _ Tryz.underlying9
  have hk := bs_eq9 t t'
  by_cases e1 : c = c'
  · subst e1
    by_cases e2 : t = t'
    · subst e2; simp [p1, p2, h1, h2]
    · have hk' : ((M.bs t).toList == (M.bs t').toList) = false := by rw [hk]; simp [e2]
      simp [p1, p2, h1, h2, hk', e2]
  · have e1' : (c == c') = false := by simpa using e1
    simp [p1, h1, e1', e1]
theorem hidQ {p : Prop} (h : p) : Hid p := h
theorem wl_mid9A {P : Program} {ops : Array Oper} {rest : List Oper} {o : Oper} {a : Act} {w : World} {Q : Exit → Act → World → Prop} (hw : Region.wanted o (yielded ops a.tmps) = true) (ty : TypeId) (x : Operand) (ho : o.op = .load ty x)
    (b q : Nat) (hx : a.eval x = .pointer (some ⟨b, q, none⟩)) (cs : List Value) (d : TypeDesc) (hc : w.rangeAt b q cs)
    (hu : P.underlying ty = some d) (hd : d.isRow = true) (hi : (P.info? ty).map (·.size) = some cs.length)
    (h : wpList P ops Q rest (a.put o.dst (.agg cs.toArray)) w) : wpList P ops Q (o :: rest) a w :=
  wpList_step fun _ hK => by rw [if_pos hw]; exact wp_load_mid ty x ho b q hx cs d hc hu hd hi (hK _ _ h)
set_option maxRecDepth 8000 in
set_option maxHeartbeats 40000000 in
theorem apart_walk (ca cb : List UInt8) (la lb : List O.Re) (aa ab : Option Addr) (ka kb : Nat) {w W : World} (hG : GW w) (hT : Tab w) (HB : Bl w W) (va : RS lyR W aa la) (vb : RS lyR W ab lb) (na : la.length ≤ 9223372036854775807) (nb : lb.length ≤ 9223372036854775807)
    (oa : ∀ r ∈ la, -9223372036854775808 ≤ r.1 ∧ r.1 ≤ 9223372036854775807 ∧ r.2.length ≤ 9223372036854775807) (ob : ∀ r ∈ lb, -9223372036854775808 ≤ r.1 ∧ r.1 ≤ 9223372036854775807 ∧ r.2.length ≤ 9223372036854775807) (ha : ca.length ≤ 9223372036854775807) (hb : cb.length ≤ 9223372036854775807) :
    Calls Tryz.prog 6 #[.agg #[.string (M.bs ca), .slice aa la.length ka], .agg #[.string (M.bs cb), .slice ab lb.length kb]] W fun e w' => e = .returned (.bool true) ∧ Bl w w' := by
  have HWZ : Hid (Bl W ((W.alloc (.cells #[.string (M.bs ca), .slice aa la.length ka] 57)).alloc (.cells #[.string (M.bs cb), .slice ab lb.length kb] 57))) := ((Bl.refl W).alloc _).alloc _
  have hz1 := M.bs_size ca
  have hz2 := M.bs_size cb
  have CA : Hid (Calls Tryz.prog 8 #[] ((W.alloc (.cells #[.string (M.bs ca), .slice aa la.length ka] 57)).alloc (.cells #[.string (M.bs cb), .slice ab lb.length kb] 57)) fun e w' => e = .returned (.bool true) ∧ Bl ((W.alloc (.cells #[.string (M.bs ca), .slice aa la.length ka] 57)).alloc (.cells #[.string (M.bs cb), .slice ab lb.length kb] 57)) w') := awake_9 (hG.below (HB.step HWZ.out) hG.z) (hT.below (HB.step HWZ.out)) (Bl.refl _)
  have HFA : Hid (∀ U, Bl ((W.alloc (.cells #[.string (M.bs ca), .slice aa la.length ka] 57)).alloc (.cells #[.string (M.bs cb), .slice ab lb.length kb] 57)) U → U.cell? ⟨W.heap.size, 0, none⟩ = some (.string (M.bs ca)) ∧ U.cell? ⟨W.heap.size, 1, none⟩ = some (.slice aa la.length ka) ∧ U.cell? ⟨W.heap.size + 1, 0, none⟩ = some (.string (M.bs cb)) ∧ U.cell? ⟨W.heap.size + 1, 1, none⟩ = some (.slice ab lb.length kb)) := fun U hU => by
    have s1 : (W.alloc (.cells #[.string (M.bs ca), .slice aa la.length ka] 57)).heap.size = W.heap.size + 1 := by simp
    have b1 := heap_alloc_new (W.alloc (.cells #[.string (M.bs ca), .slice aa la.length ka] 57)) (.cells #[.string (M.bs cb), .slice ab lb.length kb] 57)
    have b0 := heap_alloc_new W (.cells #[.string (M.bs ca), .slice aa la.length ka] 57)
    rw [s1] at b1
    have u1 := Below.block hU _ (TA.lt_heap b1)
    have u0 := Below.block (((Bl.refl (W.alloc (.cells #[.string (M.bs ca), .slice aa la.length ka] 57))).alloc _).step hU) _ (TA.lt_heap b0)
    rw [b1] at u1
    rw [b0] at u0
    exact ⟨by rw [Lib.cell_of_heap u0]; rfl, by rw [Lib.cell_of_heap u0]; rfl, by rw [Lib.cell_of_heap u1]; rfl, by rw [Lib.cell_of_heap u1]; rfl⟩
  have FIN : Hid (∀ U, Bl ((W.alloc (.cells #[.string (M.bs ca), .slice aa la.length ka] 57)).alloc (.cells #[.string (M.bs cb), .slice ab lb.length kb] 57)) U → Bl w U) := fun U hU => (HB.step HWZ.out).step hU
  by_cases e0 : 30 < la.length
  · clear hG hT HB HWZ oa ob va vb
    go_enter Tryz.func6, Tryz.ntmps6
    go_wp2_with (first
      | go_skip
      | (go_at_call 8; refine CA.out.mono ?_; clear CA; rintro e w1 ⟨rfl, H1⟩; obtain ⟨p0, p1, p2, p3⟩ := HFA.out w1 H1))
    go_ret
    exact ⟨rfl, FIN.out _ H1⟩
  by_cases e1 : 30 < lb.length
  · clear hG hT HB HWZ oa ob va vb
    go_enter Tryz.func6, Tryz.ntmps6
    go_wp2_with (first
      | go_skip
      | (go_at_call 8; refine CA.out.mono ?_; clear CA; rintro e w1 ⟨rfl, H1⟩; obtain ⟨p0, p1, p2, p3⟩ := HFA.out w1 H1))
    go_ret
    exact ⟨rfl, FIN.out _ H1⟩
  by_cases e2 : 1000 < ca.length
  · clear hG hT HB HWZ oa ob va vb
    go_enter Tryz.func6, Tryz.ntmps6
    go_wp2_with (first
      | go_skip
      | (go_at_call 8; refine CA.out.mono ?_; clear CA; rintro e w1 ⟨rfl, H1⟩; obtain ⟨p0, p1, p2, p3⟩ := HFA.out w1 H1))
    go_ret
    exact ⟨rfl, FIN.out _ H1⟩
  by_cases e3 : 1000 < cb.length
  · clear hG hT HB HWZ oa ob va vb
    go_enter Tryz.func6, Tryz.ntmps6
    go_wp2_with (first
      | go_skip
      | (go_at_call 8; refine CA.out.mono ?_; clear CA; rintro e w1 ⟨rfl, H1⟩; obtain ⟨p0, p1, p2, p3⟩ := HFA.out w1 H1))
    go_ret
    exact ⟨rfl, FIN.out _ H1⟩
  have HVA : Hid (∀ U, Bl ((W.alloc (.cells #[.string (M.bs ca), .slice aa la.length ka] 57)).alloc (.cells #[.string (M.bs cb), .slice ab lb.length kb] 57)) U → RS lyR U aa la) := fun U hU => (va.bl HWZ.out).bl hU
  have HVB : Hid (∀ U, Bl ((W.alloc (.cells #[.string (M.bs ca), .slice aa la.length ka] 57)).alloc (.cells #[.string (M.bs cb), .slice ab lb.length kb] 57)) U → RS lyR U ab lb) := fun U hU => (vb.bl HWZ.out).bl hU
  have HG : Hid (∀ U, Bl ((W.alloc (.cells #[.string (M.bs ca), .slice aa la.length ka] 57)).alloc (.cells #[.string (M.bs cb), .slice ab lb.length kb] 57)) U → GW U) := fun U hU => hG.below ((HB.step HWZ.out).step hU) hG.z
  have HOA : Hid (∀ r ∈ la, -9223372036854775808 ≤ r.1 ∧ r.1 ≤ 9223372036854775807 ∧ r.2.length ≤ 9223372036854775807) := oa
  have HOB : Hid (∀ r ∈ lb, -9223372036854775808 ≤ r.1 ∧ r.1 ≤ 9223372036854775807 ∧ r.2.length ≤ 9223372036854775807) := ob
  clear hG hT HB HWZ oa ob va vb na nb ha hb
  go_enter Tryz.func6, Tryz.ntmps6
  go_upto_region 5 with (first
    | go_skip
    | (go_at_call 8; refine CA.out.mono ?_; clear CA; rintro e w1 ⟨rfl, H1⟩; obtain ⟨p0, p1, p2, p3⟩ := HFA.out w1 H1))
  go_cut [5, 40, 41, 48, 49] (fun s5 s40 s41 s48 s49 wx => s5 = .bool (O.smB ca cb la lb 0) ∧ wx = w1)
  case first =>
    by_cases hcc : ca = cb
    · have hq : ((M.bs ca).toList == (M.bs cb).toList) = true := by rw [bs_eq9]; simp [hcc]
      have hs0 : O.smB ca cb la lb 0 = ((la.length : Int) == (lb.length : Int)) := by
        rw [O.smB_zero, decide_eq_true hcc, Bool.true_and, Bool.eq_iff_iff]; simp; omega
      have HS0 : Hid (O.smB ca cb la lb 0 = ((la.length : Int) == (lb.length : Int))) := hs0
      clear hcc hs0
      go_wp2_with (first | go_skip | fail)
      go_meet
      exact ⟨by rw [HS0.out], rfl⟩
    · have hq : ((M.bs ca).toList == (M.bs cb).toList) = false := by rw [bs_eq9]; simp [hcc]
      have HS0 : Hid (O.smB ca cb la lb 0 = false) := by show _ = _; rw [O.smB_zero, decide_eq_false hcc]; rfl
      clear hcc
      go_wp2_with (first | go_skip | fail)
      go_meet
      exact ⟨by rw [HS0.out], rfl⟩
  case rest =>
    obtain ⟨rfl, rfl⟩ := hcut
    have H1H : Hid (Bl ((W.alloc (.cells #[.string (M.bs ca), .slice aa la.length ka] 57)).alloc (.cells #[.string (M.bs cb), .slice ab lb.length kb] 57)) wc) := H1
    have OW0 : Hid ((wc.alloc (.cells #[] 47)).ownsRow wc.heap.size 47 lyR.k (.slice (some ⟨wc.heap.size, 0, none⟩) 0 0) ([] : List O.Re).length (flG lyR [])) := own_empty9 wc _ _
    have T1 : Hid (RS lyR (wc.alloc (.cells #[] 47)) aa la) := HVA.out _ (H1.alloc _)
    have T2 : Hid (∀ w', (wc.alloc (.cells #[] 47)).grownBy w' (some wc.heap.size) → Bl wc w') := fun w' hg => Below.grown ((Bl.refl wc).alloc (.cells #[] 47)) hg (by simp) (fun k hk => by cases hk; exact Nat.le_refl _)
    obtain ⟨q0, q1, q2, q3⟩ := HFA.out (wc.alloc (.cells #[] 47)) (H1.alloc _)
    clear p0 p1 p2 p3 H1
    go_wp2_with (first
      | go_skip
      | (refine wl_appG lyR 47 55 (.agg #[.int .i64 0, .string ⟨#[]⟩]) 24 undRs infoRe3 rfl (by decide) rfl _ _ rfl wc.heap.size [] _ rfl (by simp) OW0.out aa la _ ka rfl rfl T1.out (by simp; omega) ?_; clear OW0 T1; intro v1 w2 hown1 hg1; have hb1 := T2.out _ hg1; clear T2 hg1; simp only [List.nil_append] at hown1))
    clear q0 q1 q2 q3
    obtain ⟨a6, c6, rfl, _⟩ := owns_rs lyR hown1
    have HOW0 : Hid (w2.ownsRow wc.heap.size 47 2 (.slice a6 la.length c6) la.length (flG lyR la)) := hown1
    have HB2 : Hid (Bl wc w2) := hb1
    clear hown1 hb1
    go_loopw [7] (fun u7 wr => ∃ k : Nat, k ≤ la.length ∧ u7 = .int .i64 k ∧ Bl wc wr ∧ wr.ownsRow wc.heap.size 47 2 (.slice a6 la.length c6) la.length (flG lyR (stK la k)) ∧ ∀ (j : Nat) (r : O.Re), j < k → la[j]? = some r → r.2.length ≤ 1000) (fun u7 _ => la.length - (intOf u7).toNat)
    case atStart => exact ⟨0, Nat.zero_le _, rfl, HB2.out, by rw [stK_zero]; exact HOW0.out, fun j r h => by omega⟩
    case round =>
      obtain ⟨k, hk, rfl, hbl, hown, hpre⟩ := hrel
      have HBR : Hid (Bl wc wr) := hbl
      have HP : Hid (∀ (j : Nat) (r : O.Re), j < k → la[j]? = some r → r.2.length ≤ 1000) := hpre
      clear HOW0 HB2 hpre
      by_cases hlt : k < la.length
      · obtain ⟨r, hr⟩ : ∃ r, la[k]? = some r := ⟨la[k], List.getElem?_eq_getElem hlt⟩
        have hsl := stK_len la k hk
        have hown2 : wr.ownsRow wc.heap.size 47 2 (.slice a6 (stK la k).length c6) (stK la k).length (flG lyR (stK la k)) := by rw [hsl]; exact hown
        have hat := stK_at hr
        obtain ⟨a6', c6', e6, hrs⟩ := owns_rs lyR hown2
        simp only [Value.slice.injEq] at e6
        obtain ⟨rfl, _, rfl⟩ := e6
        obtain ⟨g, off, rfl, hg, hrg⟩ := hrs k r hat
        obtain ⟨rfl, hge, hgl, hfz, hset⟩ := own_set9 hown2 hat []
        have hro := HOA.out r (List.mem_of_getElem? hr)
        have HSU : Hid (stK la (k + 1) = (stK la k).set k (O.strip r)) := stK_succ hr
        have q0 : wr.cell? ⟨g, 0 + k * 2, none⟩ = some (.int .i64 r.1) := hrg 0 _ rfl
        have q1 : wr.cell? ⟨g, 0 + k * 2 + 1, none⟩ = some (.string (M.bs r.2)) := hrg 1 _ rfl
        simp only [Nat.zero_add] at q0 q1 hfz hset
        have hbs := M.bs_size r.2
        have HPS : Hid (r.2.length ≤ 1000 → ∀ (j : Nat) (x : O.Re), j < k + 1 → la[j]? = some x → x.2.length ≤ 1000) := fun h j x hj hx => by
          rcases (by omega : j < k ∨ j = k) with h' | rfl
          · exact HP.out j x h' hx
          · rw [hr] at hx; cases hx; exact h
        have HOWN : Hid (wr.ownsRow wc.heap.size 47 2 (.slice (some ⟨g, 0, none⟩) la.length c6) la.length (flG lyR (stK la k))) := hown
        have HSET : Hid ((wr.setCell ⟨g, k * 2 + 1, none⟩ (.string ⟨#[]⟩)).ownsRow wc.heap.size 47 2 (.slice (some ⟨g, 0, none⟩) la.length c6) la.length (flG lyR ((stK la k).set k (r.1, [])))) := by rw [hsl] at hset; exact hset
        have HAT : Hid ((stK la k)[k]? = some r) := hat
        clear hown hown2 hset hrs hrg hr hat hbl
        have hrb := hro.2.2
        by_cases hbig : 1000 < r.2.length
        · clear HSET HSU HPS HOWN HP HAT
          obtain ⟨rc, rb⟩ := r
          simp only at *
          go_wp2_with (first | go_skip | fail)
          go_ret
          exact ⟨rfl, FIN.out _ (H1H.out.step HBR.out)⟩
        · have HP2 := HPS.out (by omega)
          by_cases h0 : r.1 = 0
          · have HE : Hid (stK la (k + 1) = stK la k) := by show _ = _; rw [HSU.out, strip_zero h0, set_same HAT.out]
            obtain ⟨rc, rb⟩ := r
            simp only at *
            subst h0
            clear HSET HSU HPS HP HAT hro
            have HP3 : Hid (∀ (j : Nat) (x : O.Re), j < k + 1 → la[j]? = some x → x.2.length ≤ 1000) := HP2
            clear HP2
            go_wp2_with (first | go_skip | fail)
            go_roundw
            case rel => exact ⟨k + 1, by omega, by go_num, HBR.out, by rw [HE.out]; exact HOWN.out, HP3.out⟩
            case measure => simp [intOf]; omega
          · have HE : Hid (stK la (k + 1) = (stK la k).set k (r.1, [])) := by show _ = _; rw [HSU.out, strip_not h0]
            have h0i : (r.1 != 0) = true := by simpa using h0
            have HBS : Hid (Bl wc (wr.setCell ⟨g, k * 2 + 1, none⟩ (.string ⟨#[]⟩))) := Bl.set HBR.out hge _ _
            obtain ⟨rc, rb⟩ := r
            simp only at *
            clear HSU HPS HP HAT hro h0 HOWN
            have HP3 : Hid (∀ (j : Nat) (x : O.Re), j < k + 1 → la[j]? = some x → x.2.length ≤ 1000) := HP2
            clear HP2
            go_wp2_with (first | go_skip | fail)
            go_roundw
            case rel => exact ⟨k + 1, by omega, by go_num, HBS.out, by rw [HE.out]; exact HSET.out, HP3.out⟩
            case measure => simp [intOf]; omega
      · obtain rfl : k = la.length := by omega
        have HRS : Hid (RS lyR wr a6 (la.map O.strip)) := by
          have h : wr.ownsRow wc.heap.size 47 2 (.slice a6 (la.map O.strip).length c6) (la.map O.strip).length (flG lyR (la.map O.strip)) := by
            rw [stK_all] at hown
            rw [List.length_map]; exact hown
          obtain ⟨x, y, e, hr⟩ := owns_rs lyR h
          simp only [Value.slice.injEq] at e
          rw [e.1]; exact hr
        clear hown hbl
        have HW1 : Hid (Bl ((W.alloc (.cells #[.string (M.bs ca), .slice aa la.length ka] 57)).alloc (.cells #[.string (M.bs cb), .slice ab lb.length kb] 57)) wr) := H1H.out.step HBR.out
        clear HBR H1H hlt hk
        go_wp2_with (first | go_skip | fail)
        generalize hV : wr = V at *
        clear hV
        go_loopw [5, 8, 9] (fun u5 u8 u9 wr => ∃ k : Nat, k ≤ lb.length ∧ u8 = .int .i64 k ∧ u5 = .bool (O.smB ca cb la lb k) ∧ Bl V wr ∧ ∀ (j : Nat) (r : O.Re), j < k → lb[j]? = some r → r.2.length ≤ 1000) (fun _ u8 _ _ => lb.length - (intOf u8).toNat)
        case atStart => exact ⟨0, Nat.zero_le _, rfl, rfl, Bl.refl _, fun j r h => by omega⟩
        case round =>
          obtain ⟨k, hk, rfl, rfl, hbl, hpre⟩ := hrel
          have HBV : Hid (Bl V wr) := hbl
          have HPB : Hid (∀ (j : Nat) (r : O.Re), j < k → lb[j]? = some r → r.2.length ≤ 1000) := hpre
          have HBR : Hid (Bl ((W.alloc (.cells #[.string (M.bs ca), .slice aa la.length ka] 57)).alloc (.cells #[.string (M.bs cb), .slice ab lb.length kb] 57)) wr) := HW1.out.step hbl
          obtain ⟨p0, p1, p2, p3⟩ := HFA.out wr HBR.out
          clear hpre hbl p0 p1 p2
          by_cases hlt : k < lb.length
          · obtain ⟨r, hr⟩ : ∃ r, lb[k]? = some r := ⟨lb[k], List.getElem?_eq_getElem hlt⟩
            obtain ⟨g, off, rfl, hg, hrg⟩ := HVB.out wr HBR.out k r hr
            have hro := HOB.out r (List.mem_of_getElem? hr)
            have hrb := hro.2.2
            have hbs := M.bs_size r.2
            have HSU : Hid (O.smB ca cb la lb (k + 1) = (O.smB ca cb la lb k && (match la[k]? with | some x => decide (O.strip x = O.strip r) | none => false))) := O.smB_succ hr
            have HLE : Hid (O.smB ca cb la lb k = true → la.length = lb.length) := fun h => (of_decide_eq_true h).2.1
            have HPS : Hid (r.2.length ≤ 1000 → ∀ (j : Nat) (x : O.Re), j < k + 1 → lb[j]? = some x → x.2.length ≤ 1000) := fun h j x hj hx => by
              rcases (by omega : j < k ∨ j = k) with h' | rfl
              · exact HPB.out j x h' hx
              · rw [hr] at hx; cases hx; exact h
            have q1 : wr.cell? ⟨g, off + k * 2 + 1, none⟩ = some (.string (M.bs r.2)) := hrg 1 _ rfl
            have HRG : Hid (wr.rangeAt g (off + k * 2) [.int .i64 r.1, .string (M.bs r.2)]) := hrg
            have HRS2 : Hid (∀ U, Bl wr U → RS lyR U a6 (la.map O.strip)) := fun U hU => (HRS.out.bl HBV.out).bl hU
            obtain ⟨fs, hum⟩ := undRes
            clear hrg hr hro
            by_cases hbig : 1000 < r.2.length
            · clear HSU HPS HPB HLE HRG HRS2
              obtain ⟨rc, rb⟩ := r
              simp only at *
              go_wp2_with (first | go_skip | fail)
              go_ret
              exact ⟨rfl, FIN.out _ HBR.out⟩
            · have HP3 : Hid (∀ (j : Nat) (x : O.Re), j < k + 1 → lb[j]? = some x → x.2.length ≤ 1000) := HPS.out (by omega)
              obtain ⟨rc, rb⟩ := r
              simp only at *
              have HBOX : Hid (∀ (t : List UInt8) U, Bl (wr.alloc (.cells #[.int .i64 rc, .string (M.bs t)] 47)) U → U.cell? ⟨wr.heap.size, 0, none⟩ = some (.int .i64 rc) ∧ U.cell? ⟨wr.heap.size, 1, none⟩ = some (.string (M.bs t))) := fun t U hU => by
                have b0 := heap_alloc_new wr (.cells #[.int .i64 rc, .string (M.bs t)] 47)
                have u0 := Below.block hU _ (TA.lt_heap b0)
                rw [b0] at u0
                exact ⟨by rw [Lib.cell_of_heap u0]; rfl, by rw [Lib.cell_of_heap u0]; rfl⟩
              clear HPS HPB
              clear HBOX
              by_cases h0 : rc = 0
              · subst h0
                rw [strip_zero (r := ((0 : Int), rb)) rfl] at HSU
                have HY : Hid (Bl wr (wr.alloc (.cells #[.int .i64 0, .string (M.bs rb)] 47))) := (Bl.refl wr).alloc _
                cases hsm : O.smB ca cb la lb k with
                | false =>
                  have HE : Hid (O.smB ca cb la lb (k + 1) = false) := by show _ = _; rw [HSU.out, hsm]; rfl
                  clear HSU HLE hsm HRS2
                  go_wp2_with (first
                    | go_skip
                    | (refine wpList_load_mid rfl 47 _ rfl g (off + k * 2) rfl [.int .i64 0, .string (M.bs rb)] _ HRG.out hum rfl infoRes ?_; clear HRG))
                  go_quiet (fail)
                  go_wp2_with (first | go_skip | fail)
                  go_roundw
                  case rel => exact ⟨k + 1, by omega, by go_num, by rw [HE.out], (HBV.out.step HY.out).drewN _, HP3.out⟩
                  case measure => simp [intOf]; omega
                | true =>
                  have hll := HLE.out hsm
                  obtain ⟨x, hx⟩ : ∃ x, la[k]? = some x := ⟨la[k]'(by omega), List.getElem?_eq_getElem _⟩
                  obtain ⟨xc, xv, hxs⟩ : ∃ xc xv, O.strip x = (xc, xv) := ⟨_, _, rfl⟩
                  have HE : Hid (O.smB ca cb la lb (k + 1) = decide (xc = 0 ∧ xv = rb)) := by
                    show _ = _
                    rw [HSU.out, hsm, hx]
                    simp only [hxs, Bool.true_and, Prod.mk.injEq]
                  have hxm : (la.map O.strip)[k]? = some (xc, xv) := by rw [List.getElem?_map, hx, Option.map_some, hxs]
                  obtain ⟨g6, o6, rfl, hg6, hr6⟩ := HRS2.out _ HY.out k _ hxm
                  have t0 : (wr.alloc (.cells #[.int .i64 0, .string (M.bs rb)] 47)).cell? ⟨g6, o6 + k * 2, none⟩ = some (.int .i64 xc) := hr6 0 _ rfl
                  have t1 : (wr.alloc (.cells #[.int .i64 0, .string (M.bs rb)] 47)).cell? ⟨g6, o6 + k * 2 + 1, none⟩ = some (.string (M.bs xv)) := hr6 1 _ rfl
                  have heq : ∀ U, (Op.equalIn 10000 47 (.agg #[.int .i64 xc, .string (M.bs xv)]) (.agg #[.int .i64 0, .string (M.bs rb)])).run Tryz.prog U = .ok (decide (xc = 0 ∧ xv = rb)) U := fun U => eqReA xc 0 xv rb U
                  have hkl : (k : Int) < (la.length : Int) := by omega
                  generalize decide (xc = 0 ∧ xv = rb) = eb at *
                  clear HSU HLE hsm HRS2 hx hxs hxm hr6 hll HVA HRS
                  go_wp2_with (first
                    | go_skip
                    | (refine wpList_load_mid rfl 47 _ rfl g (off + k * 2) rfl [.int .i64 0, .string (M.bs rb)] _ HRG.out hum rfl infoRes ?_; clear HRG))
                  go_quiet (fail)
                  go_wp2_with (first | go_skip | fail)
                  go_roundw
                  case rel => exact ⟨k + 1, by omega, by go_num, by rw [HE.out], (HBV.out.step HY.out).drewN _, HP3.out⟩
                  case measure => simp [intOf]; omega
              · rw [strip_not (r := (rc, rb)) h0] at HSU
                have h0i : (rc != 0) = true := by simpa using h0
                clear h0
                have HY : Hid (Bl wr (wr.alloc (.cells #[.int .i64 rc, .string ⟨#[]⟩] 47))) := (Bl.refl wr).alloc _
                cases hsm : O.smB ca cb la lb k with
                | false =>
                  have HE : Hid (O.smB ca cb la lb (k + 1) = false) := by show _ = _; rw [HSU.out, hsm]; rfl
                  clear HSU HLE hsm HRS2
                  go_wp2_with (first
                    | go_skip
                    | (refine wpList_load_mid rfl 47 _ rfl g (off + k * 2) rfl [.int .i64 rc, .string (M.bs rb)] _ HRG.out hum rfl infoRes ?_; clear HRG))
                  go_quiet (fail)
                  go_wp2_with (first | go_skip | fail)
                  go_roundw
                  case rel => exact ⟨k + 1, by omega, by go_num, by rw [HE.out], (HBV.out.step HY.out).drewN _, HP3.out⟩
                  case measure => simp [intOf]; omega
                | true =>
                  have hll := HLE.out hsm
                  obtain ⟨x, hx⟩ : ∃ x, la[k]? = some x := ⟨la[k]'(by omega), List.getElem?_eq_getElem _⟩
                  obtain ⟨xc, xv, hxs⟩ : ∃ xc xv, O.strip x = (xc, xv) := ⟨_, _, rfl⟩
                  have HE : Hid (O.smB ca cb la lb (k + 1) = decide (xc = rc ∧ xv = [])) := by
                    show _ = _
                    rw [HSU.out, hsm, hx]
                    simp only [hxs, Bool.true_and, Prod.mk.injEq]
                  have hxm : (la.map O.strip)[k]? = some (xc, xv) := by rw [List.getElem?_map, hx, Option.map_some, hxs]
                  obtain ⟨g6, o6, rfl, hg6, hr6⟩ := HRS2.out _ HY.out k _ hxm
                  have t0 : (wr.alloc (.cells #[.int .i64 rc, .string ⟨#[]⟩] 47)).cell? ⟨g6, o6 + k * 2, none⟩ = some (.int .i64 xc) := hr6 0 _ rfl
                  have t1 : (wr.alloc (.cells #[.int .i64 rc, .string ⟨#[]⟩] 47)).cell? ⟨g6, o6 + k * 2 + 1, none⟩ = some (.string (M.bs xv)) := hr6 1 _ rfl
                  have heq : ∀ U, (Op.equalIn 10000 47 (.agg #[.int .i64 xc, .string (M.bs xv)]) (.agg #[.int .i64 rc, .string ⟨#[]⟩])).run Tryz.prog U = .ok (decide (xc = rc ∧ xv = [])) U := fun U => eqReA xc rc xv [] U
                  have hkl : (k : Int) < (la.length : Int) := by omega
                  generalize decide (xc = rc ∧ xv = []) = eb at *
                  clear HSU HLE hsm HRS2 hx hxs hxm hr6 hll HVA HRS
                  go_wp2_with (first
                    | go_skip
                    | (refine wpList_load_mid rfl 47 _ rfl g (off + k * 2) rfl [.int .i64 rc, .string (M.bs rb)] _ HRG.out hum rfl infoRes ?_; clear HRG))
                  go_quiet (fail)
                  go_wp2_with (first | go_skip | fail)
                  go_roundw
                  case rel => exact ⟨k + 1, by omega, by go_num, by rw [HE.out], (HBV.out.step HY.out).drewN _, HP3.out⟩
                  case measure => simp [intOf]; omega
          · obtain rfl : k = lb.length := by omega
            have hra : ∀ r ∈ la, ReOk r := fun r hr => by
              obtain ⟨j, hj⟩ := List.mem_iff_getElem?.1 hr
              have h3 := HP.out j r (List.getElem?_eq_some_iff.1 hj).1 hj
              have h4 := HOA.out r hr
              exact ⟨h4.1, h4.2.1, by omega⟩
            have hrb : ∀ r ∈ lb, ReOk r := fun r hr => by
              obtain ⟨j, hj⟩ := List.mem_iff_getElem?.1 hr
              have h3 := HPB.out j r (List.getElem?_eq_some_iff.1 hj).1 hj
              have h4 := HOB.out r hr
              exact ⟨h4.1, h4.2.1, by omega⟩
            have hxl := keyR_le ca la (by omega) (by omega)
            have hyl := keyR_le cb lb (by omega) (by omega)
            have hkt : ∀ (c : List UInt8) (l : List O.Re), c.length ≤ 1000 → ∀ t ∈ O.keyR c l, t.length ≤ 2000000 := fun c l hc t ht => by
              unfold O.keyR at ht
              rcases List.mem_append.1 ht with ht | ht
              · simp at ht
                rcases ht with rfl | rfl
                · simp [O.kAct]
                · omega
              · obtain ⟨r, _, rfl⟩ := List.mem_map.1 ht
                have := told_len r; omega
            have hinj : M.rowB (O.keyR ca la) = M.rowB (O.keyR cb lb) → O.keyR ca la = O.keyR cb lb := O.rowB_inj9 (by simp [O.keyR]; omega) (by simp [O.keyR]; omega) (hkt ca la (by omega)) (hkt cb lb (by omega))
            have hof : O.smB ca cb la lb lb.length = true → M.rowB (O.keyR ca la) = M.rowB (O.keyR cb lb) := fun h => by
              rw [O.smB_all] at h
              obtain ⟨h1, h2⟩ := of_decide_eq_true h
              rw [O.keyR_of h1 h2]
            have hno : M.rowB (O.keyR ca la) = M.rowB (O.keyR cb lb) → NCA (la ++ lb) (la ++ lb).length → O.smB ca cb la lb lb.length = true := fun h hn => by
              obtain ⟨h1, h2⟩ := O.keyR_parts (hinj h)
              rw [O.smB_all]
              refine decide_eq_true ⟨h1, O.map_strip (fun r hr => ⟨(HOA.out r hr).1, (HOA.out r hr).2.1⟩) (fun r hr => ⟨(HOB.out r hr).1, (HOB.out r hr).2.1⟩) (fun r hr t ht => nca_inj hn r (by simp [hr]) t (by simp [ht])) h2⟩
            have C1 : Hid (∀ U, Bl ((W.alloc (.cells #[.string (M.bs ca), .slice aa la.length ka] 57)).alloc (.cells #[.string (M.bs cb), .slice ab lb.length kb] 57)) U → Calls Tryz.prog 17 #[.agg #[.string (M.bs ca), .slice aa la.length ka]] U fun e w' => e = .returned (.string (M.bs (M.rowB (O.keyR ca la)))) ∧ Bl U w') := fun U hU => row_x9 ca la aa ka (HG.out U hU) (Bl.refl U) (HVA.out U hU) (by omega) hra (by omega)
            have C2 : Hid (∀ U, Bl ((W.alloc (.cells #[.string (M.bs ca), .slice aa la.length ka] 57)).alloc (.cells #[.string (M.bs cb), .slice ab lb.length kb] 57)) U → Calls Tryz.prog 17 #[.agg #[.string (M.bs cb), .slice ab lb.length kb]] U fun e w' => e = .returned (.string (M.bs (M.rowB (O.keyR cb lb)))) ∧ Bl U w') := fun U hU => row_x9 cb lb ab kb (HG.out U hU) (Bl.refl U) (HVB.out U hU) (by omega) hrb (by omega)
            have K1 : Hid (∀ V U, Bl ((W.alloc (.cells #[.string (M.bs ca), .slice aa la.length ka] 57)).alloc (.cells #[.string (M.bs cb), .slice ab lb.length kb] 57)) V → Bl V U → Calls Tryz.prog 20 #[.string (M.bs ca), .slice aa la.length ka] U fun e w' => e = .returned (.agg (dg (S.sha (M.rowB (O.keyR ca la))))) ∧ Bl V w') := fun V U hV hU => (Key_x ca la aa ka (HG.out U (hV.step hU)) (Bl.refl U) (HVA.out U (hV.step hU)) (by omega) hra (by omega)).mono fun e w' h => ⟨h.1, hU.step h.2⟩
            have K2 : Hid (∀ V U, Bl ((W.alloc (.cells #[.string (M.bs ca), .slice aa la.length ka] 57)).alloc (.cells #[.string (M.bs cb), .slice ab lb.length kb] 57)) V → Bl V U → Calls Tryz.prog 20 #[.string (M.bs cb), .slice ab lb.length kb] U fun e w' => e = .returned (.agg (dg (S.sha (M.rowB (O.keyR cb lb))))) ∧ Bl V w') := fun V U hV hU => (Key_x cb lb ab kb (HG.out U (hV.step hU)) (Bl.refl U) (HVB.out U (hV.step hU)) (by omega) hrb (by omega)).mono fun e w' h => ⟨h.1, hU.step h.2⟩
            have CC : Hid (∀ U, Bl ((W.alloc (.cells #[.string (M.bs ca), .slice aa la.length ka] 57)).alloc (.cells #[.string (M.bs cb), .slice ab lb.length kb] 57)) U → Calls Tryz.prog 18 #[.slice aa la.length ka, .slice ab lb.length kb] U fun e w' => ∃ q, e = .returned (.bool q) ∧ (q = false → NCA (la ++ lb) (la ++ lb).length) ∧ Bl U w') := fun U hU => clash_x9 aa ab ka kb la lb (HG.out U hU) (Bl.refl U) (HVA.out U hU) (HVB.out U hU) (by omega) (by omega) hra hrb
            have CO : Hid (∀ (t : List UInt8), t.length ≤ 2000000000 → ∀ U, Bl ((W.alloc (.cells #[.string (M.bs ca), .slice aa la.length ka] 57)).alloc (.cells #[.string (M.bs cb), .slice ab lb.length kb] 57)) U → Calls Tryz.prog 19 #[.slice (some ⟨U.heap.size, 0, none⟩) 1 1] (U.alloc (.cells #[.string (M.bs t)] 9)) fun e w' => e = .returned (.agg (dg (S.sha t))) ∧ Bl U w') := fun t ht U hU => by
              refine (Of_g t 9 (GB.refl (HG.out U hU)) (by omega)).mono ?_
              rintro e w' ⟨rfl, h⟩
              exact ⟨rfl, h.b⟩
            have hq0 := fun U => eqDg (S.sha (M.rowB (O.keyR ca la))) (S.sha (M.rowB (O.keyR cb lb))) (S.sha_length _) (S.sha_length _) U
            have HR0 : Hid (∀ U, Bl ((W.alloc (.cells #[.string (M.bs ca), .slice aa la.length ka] 57)).alloc (.cells #[.string (M.bs cb), .slice ab lb.length kb] 57)) U → U.rangeAt W.heap.size 0 [.string (M.bs ca), .slice aa la.length ka] ∧ U.rangeAt (W.heap.size + 1) 0 [.string (M.bs cb), .slice ab lb.length kb]) := fun U hU => by
              obtain ⟨x0, x1, x2, x3⟩ := HFA.out U hU
              refine ⟨fun j v hv => ?_, fun j v hv => ?_⟩
              · match j, hv with
                | 0, hv => simp at hv; subst hv; exact x0
                | 1, hv => simp at hv; subst hv; exact x1
              · match j, hv with
                | 0, hv => simp at hv; subst hv; exact x2
                | 1, hv => simp at hv; subst hv; exact x3
            have R0 : Hid (wr.rangeAt W.heap.size 0 [.string (M.bs ca), .slice aa la.length ka]) := (HR0.out wr HBR.out).1
            obtain ⟨fm, humM⟩ : ∃ fs, Tryz.prog.underlying 57 = some (.struct fs) := ⟨_, Tryz.underlying57⟩
            have infoM : (Tryz.prog.info? 57).map (·.size) = some 2 := by kernel_rfl
            clear hkt hinj hra hrb HVA HVB HOA HOB HP HPB HRS HG hk hlt
            have hbq := bs_eq9 (M.rowB (O.keyR ca la)) (M.rowB (O.keyR cb lb))
            have hsx := M.bs_size (M.rowB (O.keyR ca la))
            have hsy := M.bs_size (M.rowB (O.keyR cb lb))
            generalize M.rowB (O.keyR ca la) = X at *
            generalize M.rowB (O.keyR cb lb) = Y at *
            have hlX := S.sha_length X
            have hlY := S.sha_length Y
            cases hsm : O.smB ca cb la lb lb.length with
            | true =>
              obtain rfl : X = Y := hof hsm
              have hEQ : ∀ U, (Op.equalIn 10000 51 (.agg (dg (S.sha X))) (.agg (dg (S.sha X)))).run Tryz.prog U = .ok true U := fun U => by rw [hq0 U]; simp
              clear hof hno CC CO hq0 hbq hsm
              go_wp2_with (first
                | go_skip
                | (refine wl_mid9A rfl 57 _ rfl W.heap.size 0 rfl [.string (M.bs ca), .slice aa la.length ka] _ R0.out humM rfl infoM ?_; clear R0 p3)
                | (go_at_call 17; refine (C1.out _ HBR.out).mono ?_; clear C1; rintro e v1 ⟨rfl, G1'⟩; have G1 : Hid (Bl ((W.alloc (.cells #[.string (M.bs ca), .slice aa la.length ka] 57)).alloc (.cells #[.string (M.bs cb), .slice ab lb.length kb] 57)) v1) := HBR.out.step G1'; clear G1'; have R1 : Hid (v1.rangeAt (W.heap.size + 1) 0 [.string (M.bs cb), .slice ab lb.length kb]) := (HR0.out v1 G1.out).2)
                | (refine wl_mid9A rfl 57 _ rfl (W.heap.size + 1) 0 rfl [.string (M.bs cb), .slice ab lb.length kb] _ R1.out humM rfl infoM ?_; clear R1)
                | (go_at_call 17; refine (C2.out _ G1.out).mono ?_; clear C2; rintro e v2 ⟨rfl, G2'⟩; have G2 : Hid (Bl ((W.alloc (.cells #[.string (M.bs ca), .slice aa la.length ka] 57)).alloc (.cells #[.string (M.bs cb), .slice ab lb.length kb] 57)) v2) := G1.out.step G2'; clear G2'; obtain ⟨p0, p1, p2, p3⟩ := HFA.out v2 G2.out))
              (try simp only [List.append_eq, List.cons_append, List.nil_append])
              clear p0 p1 p2 p3
              have KP : Hid (∀ U, Bl v2 U → U.cell? ⟨W.heap.size, 0, none⟩ = some (.string (M.bs ca)) ∧ U.cell? ⟨W.heap.size, 1, none⟩ = some (.slice aa la.length ka) ∧ U.cell? ⟨W.heap.size + 1, 0, none⟩ = some (.string (M.bs cb)) ∧ U.cell? ⟨W.heap.size + 1, 1, none⟩ = some (.slice ab lb.length kb)) := fun U hU => HFA.out U (G2.out.step hU)
              refine wp_region_noPanic ?_
              refine wp_region_held_drew (S := fun U => U.cell? ⟨W.heap.size, 0, none⟩ = some (.string (M.bs ca)) ∧ U.cell? ⟨W.heap.size, 1, none⟩ = some (.slice aa la.length ka) ∧ U.cell? ⟨W.heap.size + 1, 0, none⟩ = some (.string (M.bs cb)) ∧ U.cell? ⟨W.heap.size + 1, 1, none⟩ = some (.slice ab lb.length kb)) (by kernel_rfl) (KP.out _ ((Bl.refl v2).drewN 1)) (fun hHeld => ?_)
              refine wpAnyH_take (i := 0) rfl (by kernel_rfl) (by kernel_rfl) (by kernel_rfl) (fun _ _ _ h => h) (yi_move (by kernel_rfl) rfl rfl) (by assumption) ?_
              simp only [Act.put, List.getElem_toArray, List.getElem_cons_succ, List.getElem_cons_zero, List.setIfInBounds_toArray, List.set_cons_zero, List.set_cons_succ]
              refine wpAnyH_take (i := 1) rfl (by kernel_rfl) (by kernel_rfl) (by kernel_rfl) (fun _ _ _ h => h) (yi_move (by kernel_rfl) rfl rfl) (by assumption) ?_
              simp only [Act.put, List.getElem_toArray, List.getElem_cons_succ, List.getElem_cons_zero, List.setIfInBounds_toArray, List.set_cons_zero, List.set_cons_succ]
              refine wpAnyH_take (i := 2) (v := ?_) rfl (by kernel_rfl) (by kernel_rfl) (by kernel_rfl) (fun _ _ _ h => h) (Or.inl ⟨by kernel_rfl, ?_⟩) (by assumption) ?_
              rotate_left
              · (intro w hSw; (try dsimp only at hSw); go_simp; (try with_reducible rfl))
              simp only [Act.put, List.getElem_toArray, List.getElem_cons_succ, List.getElem_cons_zero, List.setIfInBounds_toArray, List.set_cons_zero, List.set_cons_succ]
              refine wpAnyH_take (i := 3) rfl (by kernel_rfl) (by kernel_rfl) (by kernel_rfl) (fun _ _ _ h => h) (yi_move (by kernel_rfl) rfl rfl) (by assumption) ?_
              simp only [Act.put, List.getElem_toArray, List.getElem_cons_succ, List.getElem_cons_zero, List.setIfInBounds_toArray, List.set_cons_zero, List.set_cons_succ]
              refine wpAnyH_take (i := 4) (v := ?_) rfl (by kernel_rfl) (by kernel_rfl) (by kernel_rfl) (fun _ _ _ h => h) (Or.inl ⟨by kernel_rfl, ?_⟩) (by assumption) ?_
              rotate_left
              · (intro w hSw; (try dsimp only at hSw); go_simp; (try with_reducible rfl))
              simp only [Act.put, List.getElem_toArray, List.getElem_cons_succ, List.getElem_cons_zero, List.setIfInBounds_toArray, List.set_cons_zero, List.set_cons_succ]
              refine wpAnyH_take (i := 5) rfl (by kernel_rfl) (by kernel_rfl) (by kernel_rfl) (fun _ _ _ h => h) (yi_move (by kernel_rfl) rfl rfl) (by assumption) ?_
              simp only [Act.put, List.getElem_toArray, List.getElem_cons_succ, List.getElem_cons_zero, List.setIfInBounds_toArray, List.set_cons_zero, List.set_cons_succ]
              refine wpAnyH_take (i := 6) (v := ?_) rfl (by kernel_rfl) (by kernel_rfl) (by kernel_rfl) (fun _ _ _ h => h) (Or.inl ⟨by kernel_rfl, ?_⟩) (by assumption) ?_
              rotate_left
              · (intro w hSw; (try dsimp only at hSw); go_simp; (try with_reducible rfl))
              simp only [Act.put, List.getElem_toArray, List.getElem_cons_succ, List.getElem_cons_zero, List.setIfInBounds_toArray, List.set_cons_zero, List.set_cons_succ]
              refine wpAnyH_take (i := 7) (v := ?_) rfl (by kernel_rfl) (by kernel_rfl) (by kernel_rfl) (fun _ _ _ h => h) (Or.inl ⟨by kernel_rfl, ?_⟩) (by assumption) ?_
              rotate_left
              · (intro w hSw; obtain ⟨s0, s1, s2, s3⟩ := hSw; go_simp; (try with_reducible rfl))
              simp only [Act.put, List.getElem_toArray, List.getElem_cons_succ, List.getElem_cons_zero, List.setIfInBounds_toArray, List.set_cons_zero, List.set_cons_succ]
              refine wpAnyH_take (i := 8) (v := ?_) rfl (by kernel_rfl) (by kernel_rfl) (by kernel_rfl) (fun _ _ _ h => h) (Or.inl ⟨by kernel_rfl, ?_⟩) (by assumption) ?_
              rotate_left
              · (intro w hSw; (try dsimp only at hSw); go_simp; (try with_reducible rfl))
              simp only [Act.put, List.getElem_toArray, List.getElem_cons_succ, List.getElem_cons_zero, List.setIfInBounds_toArray, List.set_cons_zero, List.set_cons_succ]
              refine wpAnyH_take (i := 9) (v := ?_) rfl (by kernel_rfl) (by kernel_rfl) (by kernel_rfl) (fun _ _ _ h => h) (Or.inl ⟨by kernel_rfl, ?_⟩) (by assumption) ?_
              rotate_left
              · (intro w hSw; obtain ⟨s0, s1, s2, s3⟩ := hSw; go_simp; (try with_reducible rfl))
              simp only [Act.put, List.getElem_toArray, List.getElem_cons_succ, List.getElem_cons_zero, List.setIfInBounds_toArray, List.set_cons_zero, List.set_cons_succ]
              refine wpAnyH_take (i := 11) (v := ?_) rfl (by kernel_rfl) (by kernel_rfl) (by kernel_rfl) (fun _ _ _ h => h) (Or.inl ⟨by kernel_rfl, ?_⟩) (by assumption) ?_
              rotate_left
              · (intro w hSw; (try dsimp only at hSw); go_simp; (try with_reducible rfl))
              simp only [Act.put, List.getElem_toArray, List.getElem_cons_succ, List.getElem_cons_zero, List.setIfInBounds_toArray, List.set_cons_zero, List.set_cons_succ]
              refine wpAnyH_take (i := 12) (v := ?_) rfl (by kernel_rfl) (by kernel_rfl) (by kernel_rfl) (fun _ _ _ h => h) (Or.inl ⟨by kernel_rfl, ?_⟩) (by assumption) ?_
              rotate_left
              · (intro w hSw; obtain ⟨s0, s1, s2, s3⟩ := hSw; go_simp; (try with_reducible rfl))
              simp only [Act.put, List.getElem_toArray, List.getElem_cons_succ, List.getElem_cons_zero, List.setIfInBounds_toArray, List.set_cons_zero, List.set_cons_succ]
              refine wpAnyH_take (i := 13) (v := ?_) rfl (by kernel_rfl) (by kernel_rfl) (by kernel_rfl) (fun _ _ _ h => h) (Or.inl ⟨by kernel_rfl, ?_⟩) (by assumption) ?_
              rotate_left
              · (intro w hSw; (try dsimp only at hSw); go_simp; (try with_reducible rfl))
              simp only [Act.put, List.getElem_toArray, List.getElem_cons_succ, List.getElem_cons_zero, List.setIfInBounds_toArray, List.set_cons_zero, List.set_cons_succ]
              refine wpAnyH_take (i := 14) (v := ?_) rfl (by kernel_rfl) (by kernel_rfl) (by kernel_rfl) (fun _ _ _ h => h) (Or.inl ⟨by kernel_rfl, ?_⟩) (by assumption) ?_
              rotate_left
              · (intro w hSw; obtain ⟨s0, s1, s2, s3⟩ := hSw; go_simp; (try with_reducible rfl))
              simp only [Act.put, List.getElem_toArray, List.getElem_cons_succ, List.getElem_cons_zero, List.setIfInBounds_toArray, List.set_cons_zero, List.set_cons_succ]
              refine wpAnyH_take (i := 17) rfl (by kernel_rfl) (by kernel_rfl) (by kernel_rfl) (fun _ _ _ h => h) (yi_move (by kernel_rfl) rfl rfl) (by assumption) ?_
              simp only [Act.put, List.getElem_toArray, List.getElem_cons_succ, List.getElem_cons_zero, List.setIfInBounds_toArray, List.set_cons_zero, List.set_cons_succ]
              refine wpAnyH_ready (rs := [10]) (by kernel_rfl) (by simp) ?_
              refine AllReadyH.cons (o := _) rfl (fun K hK => ?_) AllReadyH.nil
              go_simp
              go_at_call 20; refine (K1.out _ _ G2.out ((Bl.refl v2).drewN 1)).mono ?_; rintro e V16 ⟨rfl, HB16⟩
              (try clear hHeld)
              refine hK.out _ _ (KP.out _ HB16) (fun hHeld => ?_)
              clear hK K
              (try simp only [Act.put, List.getElem_toArray, List.getElem_cons_succ, List.getElem_cons_zero, List.setIfInBounds_toArray, List.set_cons_zero, List.set_cons_succ])
              refine wpAnyH_ready (rs := [15]) (by kernel_rfl) (by simp) ?_
              refine AllReadyH.cons (o := _) rfl (fun K hK => ?_) AllReadyH.nil
              go_simp
              go_at_call 20; refine (K2.out _ _ G2.out HB16).mono ?_; rintro e V17 ⟨rfl, HB17⟩
              (try clear hHeld)
              refine hK.out _ _ (KP.out _ HB17) (fun hHeld => ?_)
              clear hK K
              (try simp only [Act.put, List.getElem_toArray, List.getElem_cons_succ, List.getElem_cons_zero, List.setIfInBounds_toArray, List.set_cons_zero, List.set_cons_succ])
              refine wpAnyH_take (i := 16) (v := ?_) rfl (by kernel_rfl) (by kernel_rfl) (by kernel_rfl) (fun _ _ _ h => h) (Or.inl ⟨by kernel_rfl, ?_⟩) (by assumption) ?_
              rotate_left
              · (intro w hSw; (try dsimp only at hSw); go_simp; (try with_reducible rfl))
              simp only [Act.put, List.getElem_toArray, List.getElem_cons_succ, List.getElem_cons_zero, List.setIfInBounds_toArray, List.set_cons_zero, List.set_cons_succ]
              refine wpAnyH_take (i := 18) (v := ?_) rfl (by kernel_rfl) (by kernel_rfl) (by kernel_rfl) (fun _ _ _ h => h) (Or.inl ⟨by kernel_rfl, ?_⟩) (by assumption) ?_
              rotate_left
              · (intro w hSw; (try dsimp only at hSw); go_simp; (try with_reducible rfl))
              simp only [Act.put, List.getElem_toArray, List.getElem_cons_succ, List.getElem_cons_zero, List.setIfInBounds_toArray, List.set_cons_zero, List.set_cons_succ]
              refine wpAnyH_take (i := 19) (v := ?_) rfl (by kernel_rfl) (by kernel_rfl) (by kernel_rfl) (fun _ _ _ h => h) (Or.inl ⟨by kernel_rfl, ?_⟩) (by assumption) ?_
              rotate_left
              · (intro w hSw; (try dsimp only at hSw); go_simp; (try with_reducible rfl))
              simp only [Act.put, List.getElem_toArray, List.getElem_cons_succ, List.getElem_cons_zero, List.setIfInBounds_toArray, List.set_cons_zero, List.set_cons_succ]
              refine wpAnyH_take (i := 20) rfl (by kernel_rfl) (by kernel_rfl) (by kernel_rfl) (fun _ _ _ h => h) (yi_assign (by kernel_rfl) rfl rfl) (by assumption) ?_
              simp only [Act.put, List.getElem_toArray, List.getElem_cons_succ, List.getElem_cons_zero, List.setIfInBounds_toArray, List.set_cons_zero, List.set_cons_succ]
              refine wpAnyH_done (by kernel_rfl) ?_ _
              refine NoPanic.normal ?_
              have HE := FIN.out _ (G2.out.step HB17)
              go_wp2_with (first | go_skip | fail)
              go_ret
              exact ⟨rfl, HE⟩
            | false =>
              rw [hsm] at hof hno
              by_cases hXY : X = Y
              · subst hXY
                have CC2 : Hid (∀ U, Bl ((W.alloc (.cells #[.string (M.bs ca), .slice aa la.length ka] 57)).alloc (.cells #[.string (M.bs cb), .slice ab lb.length kb] 57)) U → Calls Tryz.prog 18 #[.slice aa la.length ka, .slice ab lb.length kb] U fun e w' => e = .returned (.bool true) ∧ Bl U w') := fun U hU => (CC.out U hU).mono fun e w' ⟨q, h1, h2, h3⟩ => by
                  cases q with
                  | true => exact ⟨h1, h3⟩
                  | false => exact absurd (hno rfl (h2 rfl)) (by decide)
                clear hof hno CC CO hq0 hbq K1 K2 hsm
                go_wp2_with (first
                  | go_skip
                  | (refine wl_mid9A rfl 57 _ rfl W.heap.size 0 rfl [.string (M.bs ca), .slice aa la.length ka] _ R0.out humM rfl infoM ?_; clear R0 p3)
                  | (go_at_call 17; refine (C1.out _ HBR.out).mono ?_; clear C1; rintro e v1 ⟨rfl, G1'⟩; have G1 : Hid (Bl ((W.alloc (.cells #[.string (M.bs ca), .slice aa la.length ka] 57)).alloc (.cells #[.string (M.bs cb), .slice ab lb.length kb] 57)) v1) := HBR.out.step G1'; clear G1'; have R1 : Hid (v1.rangeAt (W.heap.size + 1) 0 [.string (M.bs cb), .slice ab lb.length kb]) := (HR0.out v1 G1.out).2)
                  | (refine wl_mid9A rfl 57 _ rfl (W.heap.size + 1) 0 rfl [.string (M.bs cb), .slice ab lb.length kb] _ R1.out humM rfl infoM ?_; clear R1)
                  | (go_at_call 17; refine (C2.out _ G1.out).mono ?_; clear C2; rintro e v2 ⟨rfl, G2'⟩; have G2 : Hid (Bl ((W.alloc (.cells #[.string (M.bs ca), .slice aa la.length ka] 57)).alloc (.cells #[.string (M.bs cb), .slice ab lb.length kb] 57)) v2) := G1.out.step G2'; clear G2'; obtain ⟨p0, p1, p2, p3⟩ := HFA.out v2 G2.out)
                  | (go_at_call 18; refine (CC2.out _ G2.out).mono ?_; clear CC2; rintro e v3 ⟨rfl, G3'⟩; have G3 : Hid (Bl ((W.alloc (.cells #[.string (M.bs ca), .slice aa la.length ka] 57)).alloc (.cells #[.string (M.bs cb), .slice ab lb.length kb] 57)) v3) := G2.out.step G3'; clear G3'))
                go_ret
                exact ⟨rfl, FIN.out _ G3.out⟩
              · have hne : ((M.bs X).toList == (M.bs Y).toList) = false := by rw [hbq]; simp [hXY]
                have hne2 : ((M.bs X).toList != (M.bs Y).toList) = true := by simp only [bne, hne]; rfl
                have CX := hidQ (fun U hU => CO.out X hxl U hU)
                have CY := hidQ (fun U hU => CO.out Y hyl U hU)
                by_cases hsh : S.sha X = S.sha Y
                · have hEQ : ∀ U, (Op.equalIn 10000 51 (.agg (dg (S.sha X))) (.agg (dg (S.sha Y)))).run Tryz.prog U = .ok true U := fun U => by rw [hq0 U]; simp [hsh]
                  clear hof hno CC CO hq0 hbq K1 K2 hsm hXY hsh
                  go_wp2_with (first
                    | go_skip
                    | (refine wl_mid9A rfl 57 _ rfl W.heap.size 0 rfl [.string (M.bs ca), .slice aa la.length ka] _ R0.out humM rfl infoM ?_; clear R0 p3)
                    | (go_at_call 17; refine (C1.out _ HBR.out).mono ?_; clear C1; rintro e v1 ⟨rfl, G1'⟩; have G1 : Hid (Bl ((W.alloc (.cells #[.string (M.bs ca), .slice aa la.length ka] 57)).alloc (.cells #[.string (M.bs cb), .slice ab lb.length kb] 57)) v1) := HBR.out.step G1'; clear G1'; have R1 : Hid (v1.rangeAt (W.heap.size + 1) 0 [.string (M.bs cb), .slice ab lb.length kb]) := (HR0.out v1 G1.out).2)
                    | (refine wl_mid9A rfl 57 _ rfl (W.heap.size + 1) 0 rfl [.string (M.bs cb), .slice ab lb.length kb] _ R1.out humM rfl infoM ?_; clear R1)
                    | (go_at_call 17; refine (C2.out _ G1.out).mono ?_; clear C2; rintro e v2 ⟨rfl, G2'⟩; have G2 : Hid (Bl ((W.alloc (.cells #[.string (M.bs ca), .slice aa la.length ka] 57)).alloc (.cells #[.string (M.bs cb), .slice ab lb.length kb] 57)) v2) := G1.out.step G2'; clear G2'; obtain ⟨p0, p1, p2, p3⟩ := HFA.out v2 G2.out)
                    | (go_at_call 19; refine (CX.out _ G2.out).mono ?_; clear CX; rintro e v3 ⟨rfl, G3'⟩; have G3 : Hid (Bl ((W.alloc (.cells #[.string (M.bs ca), .slice aa la.length ka] 57)).alloc (.cells #[.string (M.bs cb), .slice ab lb.length kb] 57)) v3) := G2.out.step G3'; clear G3')
                    | (go_at_call 19; refine (CY.out _ G3.out).mono ?_; clear CY; rintro e v4 ⟨rfl, G4'⟩; have G4 : Hid (Bl ((W.alloc (.cells #[.string (M.bs ca), .slice aa la.length ka] 57)).alloc (.cells #[.string (M.bs cb), .slice ab lb.length kb] 57)) v4) := G3.out.step G4'; clear G4'))
                  go_ret
                  exact ⟨rfl, FIN.out _ G4.out⟩
                · have hEQ : ∀ U, (Op.equalIn 10000 51 (.agg (dg (S.sha X))) (.agg (dg (S.sha Y)))).run Tryz.prog U = .ok false U := fun U => by rw [hq0 U]; simp [hsh]
                  clear hof hno CC CO hq0 hbq hsm hXY hsh
                  go_wp2_with (first
                    | go_skip
                    | (refine wl_mid9A rfl 57 _ rfl W.heap.size 0 rfl [.string (M.bs ca), .slice aa la.length ka] _ R0.out humM rfl infoM ?_; clear R0 p3)
                    | (go_at_call 17; refine (C1.out _ HBR.out).mono ?_; clear C1; rintro e v1 ⟨rfl, G1'⟩; have G1 : Hid (Bl ((W.alloc (.cells #[.string (M.bs ca), .slice aa la.length ka] 57)).alloc (.cells #[.string (M.bs cb), .slice ab lb.length kb] 57)) v1) := HBR.out.step G1'; clear G1'; have R1 : Hid (v1.rangeAt (W.heap.size + 1) 0 [.string (M.bs cb), .slice ab lb.length kb]) := (HR0.out v1 G1.out).2)
                    | (refine wl_mid9A rfl 57 _ rfl (W.heap.size + 1) 0 rfl [.string (M.bs cb), .slice ab lb.length kb] _ R1.out humM rfl infoM ?_; clear R1)
                    | (go_at_call 17; refine (C2.out _ G1.out).mono ?_; clear C2; rintro e v2 ⟨rfl, G2'⟩; have G2 : Hid (Bl ((W.alloc (.cells #[.string (M.bs ca), .slice aa la.length ka] 57)).alloc (.cells #[.string (M.bs cb), .slice ab lb.length kb] 57)) v2) := G1.out.step G2'; clear G2'; obtain ⟨p0, p1, p2, p3⟩ := HFA.out v2 G2.out)
                    | (go_at_call 19; refine (CX.out _ G2.out).mono ?_; clear CX; rintro e v3 ⟨rfl, G3'⟩; have G3 : Hid (Bl ((W.alloc (.cells #[.string (M.bs ca), .slice aa la.length ka] 57)).alloc (.cells #[.string (M.bs cb), .slice ab lb.length kb] 57)) v3) := G2.out.step G3'; clear G3')
                    | (go_at_call 19; refine (CY.out _ G3.out).mono ?_; clear CY; rintro e v4 ⟨rfl, G4'⟩; have G4 : Hid (Bl ((W.alloc (.cells #[.string (M.bs ca), .slice aa la.length ka] 57)).alloc (.cells #[.string (M.bs cb), .slice ab lb.length kb] 57)) v4) := G3.out.step G4'; clear G4'))
                  (try simp only [List.append_eq, List.cons_append, List.nil_append])
                  clear p0 p1 p2 p3
                  have KP : Hid (∀ U, Bl v4 U → U.cell? ⟨W.heap.size, 0, none⟩ = some (.string (M.bs ca)) ∧ U.cell? ⟨W.heap.size, 1, none⟩ = some (.slice aa la.length ka) ∧ U.cell? ⟨W.heap.size + 1, 0, none⟩ = some (.string (M.bs cb)) ∧ U.cell? ⟨W.heap.size + 1, 1, none⟩ = some (.slice ab lb.length kb)) := fun U hU => HFA.out U (G4.out.step hU)
                  refine wp_region_noPanic ?_
                  refine wp_region_held_drew (S := fun U => U.cell? ⟨W.heap.size, 0, none⟩ = some (.string (M.bs ca)) ∧ U.cell? ⟨W.heap.size, 1, none⟩ = some (.slice aa la.length ka) ∧ U.cell? ⟨W.heap.size + 1, 0, none⟩ = some (.string (M.bs cb)) ∧ U.cell? ⟨W.heap.size + 1, 1, none⟩ = some (.slice ab lb.length kb)) (by kernel_rfl) (KP.out _ ((Bl.refl v4).drewN 1)) (fun hHeld => ?_)
                  refine wpAnyH_take (i := 0) rfl (by kernel_rfl) (by kernel_rfl) (by kernel_rfl) (fun _ _ _ h => h) (yi_move (by kernel_rfl) rfl rfl) (by assumption) ?_
                  simp only [Act.put, List.getElem_toArray, List.getElem_cons_succ, List.getElem_cons_zero, List.setIfInBounds_toArray, List.set_cons_zero, List.set_cons_succ]
                  refine wpAnyH_take (i := 1) rfl (by kernel_rfl) (by kernel_rfl) (by kernel_rfl) (fun _ _ _ h => h) (yi_move (by kernel_rfl) rfl rfl) (by assumption) ?_
                  simp only [Act.put, List.getElem_toArray, List.getElem_cons_succ, List.getElem_cons_zero, List.setIfInBounds_toArray, List.set_cons_zero, List.set_cons_succ]
                  refine wpAnyH_take (i := 2) (v := ?_) rfl (by kernel_rfl) (by kernel_rfl) (by kernel_rfl) (fun _ _ _ h => h) (Or.inl ⟨by kernel_rfl, ?_⟩) (by assumption) ?_
                  rotate_left
                  · (intro w hSw; (try dsimp only at hSw); go_simp; (try with_reducible rfl))
                  simp only [Act.put, List.getElem_toArray, List.getElem_cons_succ, List.getElem_cons_zero, List.setIfInBounds_toArray, List.set_cons_zero, List.set_cons_succ]
                  refine wpAnyH_take (i := 3) rfl (by kernel_rfl) (by kernel_rfl) (by kernel_rfl) (fun _ _ _ h => h) (yi_move (by kernel_rfl) rfl rfl) (by assumption) ?_
                  simp only [Act.put, List.getElem_toArray, List.getElem_cons_succ, List.getElem_cons_zero, List.setIfInBounds_toArray, List.set_cons_zero, List.set_cons_succ]
                  refine wpAnyH_take (i := 4) (v := ?_) rfl (by kernel_rfl) (by kernel_rfl) (by kernel_rfl) (fun _ _ _ h => h) (Or.inl ⟨by kernel_rfl, ?_⟩) (by assumption) ?_
                  rotate_left
                  · (intro w hSw; (try dsimp only at hSw); go_simp; (try with_reducible rfl))
                  simp only [Act.put, List.getElem_toArray, List.getElem_cons_succ, List.getElem_cons_zero, List.setIfInBounds_toArray, List.set_cons_zero, List.set_cons_succ]
                  refine wpAnyH_take (i := 5) rfl (by kernel_rfl) (by kernel_rfl) (by kernel_rfl) (fun _ _ _ h => h) (yi_move (by kernel_rfl) rfl rfl) (by assumption) ?_
                  simp only [Act.put, List.getElem_toArray, List.getElem_cons_succ, List.getElem_cons_zero, List.setIfInBounds_toArray, List.set_cons_zero, List.set_cons_succ]
                  refine wpAnyH_take (i := 6) (v := ?_) rfl (by kernel_rfl) (by kernel_rfl) (by kernel_rfl) (fun _ _ _ h => h) (Or.inl ⟨by kernel_rfl, ?_⟩) (by assumption) ?_
                  rotate_left
                  · (intro w hSw; (try dsimp only at hSw); go_simp; (try with_reducible rfl))
                  simp only [Act.put, List.getElem_toArray, List.getElem_cons_succ, List.getElem_cons_zero, List.setIfInBounds_toArray, List.set_cons_zero, List.set_cons_succ]
                  refine wpAnyH_take (i := 7) (v := ?_) rfl (by kernel_rfl) (by kernel_rfl) (by kernel_rfl) (fun _ _ _ h => h) (Or.inl ⟨by kernel_rfl, ?_⟩) (by assumption) ?_
                  rotate_left
                  · (intro w hSw; obtain ⟨s0, s1, s2, s3⟩ := hSw; go_simp; (try with_reducible rfl))
                  simp only [Act.put, List.getElem_toArray, List.getElem_cons_succ, List.getElem_cons_zero, List.setIfInBounds_toArray, List.set_cons_zero, List.set_cons_succ]
                  refine wpAnyH_take (i := 8) (v := ?_) rfl (by kernel_rfl) (by kernel_rfl) (by kernel_rfl) (fun _ _ _ h => h) (Or.inl ⟨by kernel_rfl, ?_⟩) (by assumption) ?_
                  rotate_left
                  · (intro w hSw; (try dsimp only at hSw); go_simp; (try with_reducible rfl))
                  simp only [Act.put, List.getElem_toArray, List.getElem_cons_succ, List.getElem_cons_zero, List.setIfInBounds_toArray, List.set_cons_zero, List.set_cons_succ]
                  refine wpAnyH_take (i := 9) (v := ?_) rfl (by kernel_rfl) (by kernel_rfl) (by kernel_rfl) (fun _ _ _ h => h) (Or.inl ⟨by kernel_rfl, ?_⟩) (by assumption) ?_
                  rotate_left
                  · (intro w hSw; obtain ⟨s0, s1, s2, s3⟩ := hSw; go_simp; (try with_reducible rfl))
                  simp only [Act.put, List.getElem_toArray, List.getElem_cons_succ, List.getElem_cons_zero, List.setIfInBounds_toArray, List.set_cons_zero, List.set_cons_succ]
                  refine wpAnyH_take (i := 11) (v := ?_) rfl (by kernel_rfl) (by kernel_rfl) (by kernel_rfl) (fun _ _ _ h => h) (Or.inl ⟨by kernel_rfl, ?_⟩) (by assumption) ?_
                  rotate_left
                  · (intro w hSw; (try dsimp only at hSw); go_simp; (try with_reducible rfl))
                  simp only [Act.put, List.getElem_toArray, List.getElem_cons_succ, List.getElem_cons_zero, List.setIfInBounds_toArray, List.set_cons_zero, List.set_cons_succ]
                  refine wpAnyH_take (i := 12) (v := ?_) rfl (by kernel_rfl) (by kernel_rfl) (by kernel_rfl) (fun _ _ _ h => h) (Or.inl ⟨by kernel_rfl, ?_⟩) (by assumption) ?_
                  rotate_left
                  · (intro w hSw; obtain ⟨s0, s1, s2, s3⟩ := hSw; go_simp; (try with_reducible rfl))
                  simp only [Act.put, List.getElem_toArray, List.getElem_cons_succ, List.getElem_cons_zero, List.setIfInBounds_toArray, List.set_cons_zero, List.set_cons_succ]
                  refine wpAnyH_take (i := 13) (v := ?_) rfl (by kernel_rfl) (by kernel_rfl) (by kernel_rfl) (fun _ _ _ h => h) (Or.inl ⟨by kernel_rfl, ?_⟩) (by assumption) ?_
                  rotate_left
                  · (intro w hSw; (try dsimp only at hSw); go_simp; (try with_reducible rfl))
                  simp only [Act.put, List.getElem_toArray, List.getElem_cons_succ, List.getElem_cons_zero, List.setIfInBounds_toArray, List.set_cons_zero, List.set_cons_succ]
                  refine wpAnyH_take (i := 14) (v := ?_) rfl (by kernel_rfl) (by kernel_rfl) (by kernel_rfl) (fun _ _ _ h => h) (Or.inl ⟨by kernel_rfl, ?_⟩) (by assumption) ?_
                  rotate_left
                  · (intro w hSw; obtain ⟨s0, s1, s2, s3⟩ := hSw; go_simp; (try with_reducible rfl))
                  simp only [Act.put, List.getElem_toArray, List.getElem_cons_succ, List.getElem_cons_zero, List.setIfInBounds_toArray, List.set_cons_zero, List.set_cons_succ]
                  refine wpAnyH_take (i := 17) rfl (by kernel_rfl) (by kernel_rfl) (by kernel_rfl) (fun _ _ _ h => h) (yi_move (by kernel_rfl) rfl rfl) (by assumption) ?_
                  simp only [Act.put, List.getElem_toArray, List.getElem_cons_succ, List.getElem_cons_zero, List.setIfInBounds_toArray, List.set_cons_zero, List.set_cons_succ]
                  refine wpAnyH_ready (rs := [10]) (by kernel_rfl) (by simp) ?_
                  refine AllReadyH.cons (o := _) rfl (fun K hK => ?_) AllReadyH.nil
                  go_simp
                  go_at_call 20; refine (K1.out _ _ G4.out ((Bl.refl v4).drewN 1)).mono ?_; rintro e V16 ⟨rfl, HB16⟩
                  (try clear hHeld)
                  refine hK.out _ _ (KP.out _ HB16) (fun hHeld => ?_)
                  clear hK K
                  (try simp only [Act.put, List.getElem_toArray, List.getElem_cons_succ, List.getElem_cons_zero, List.setIfInBounds_toArray, List.set_cons_zero, List.set_cons_succ])
                  refine wpAnyH_ready (rs := [15]) (by kernel_rfl) (by simp) ?_
                  refine AllReadyH.cons (o := _) rfl (fun K hK => ?_) AllReadyH.nil
                  go_simp
                  go_at_call 20; refine (K2.out _ _ G4.out HB16).mono ?_; rintro e V17 ⟨rfl, HB17⟩
                  (try clear hHeld)
                  refine hK.out _ _ (KP.out _ HB17) (fun hHeld => ?_)
                  clear hK K
                  (try simp only [Act.put, List.getElem_toArray, List.getElem_cons_succ, List.getElem_cons_zero, List.setIfInBounds_toArray, List.set_cons_zero, List.set_cons_succ])
                  refine wpAnyH_take (i := 16) (v := ?_) rfl (by kernel_rfl) (by kernel_rfl) (by kernel_rfl) (fun _ _ _ h => h) (Or.inl ⟨by kernel_rfl, ?_⟩) (by assumption) ?_
                  rotate_left
                  · (intro w hSw; (try dsimp only at hSw); go_simp; (try with_reducible rfl))
                  simp only [Act.put, List.getElem_toArray, List.getElem_cons_succ, List.getElem_cons_zero, List.setIfInBounds_toArray, List.set_cons_zero, List.set_cons_succ]
                  refine wpAnyH_take (i := 18) (v := ?_) rfl (by kernel_rfl) (by kernel_rfl) (by kernel_rfl) (fun _ _ _ h => h) (Or.inl ⟨by kernel_rfl, ?_⟩) (by assumption) ?_
                  rotate_left
                  · (intro w hSw; (try dsimp only at hSw); go_simp; (try with_reducible rfl))
                  simp only [Act.put, List.getElem_toArray, List.getElem_cons_succ, List.getElem_cons_zero, List.setIfInBounds_toArray, List.set_cons_zero, List.set_cons_succ]
                  refine wpAnyH_take (i := 19) (v := ?_) rfl (by kernel_rfl) (by kernel_rfl) (by kernel_rfl) (fun _ _ _ h => h) (Or.inl ⟨by kernel_rfl, ?_⟩) (by assumption) ?_
                  rotate_left
                  · (intro w hSw; (try dsimp only at hSw); go_simp; (try with_reducible rfl))
                  simp only [Act.put, List.getElem_toArray, List.getElem_cons_succ, List.getElem_cons_zero, List.setIfInBounds_toArray, List.set_cons_zero, List.set_cons_succ]
                  refine wpAnyH_take (i := 20) rfl (by kernel_rfl) (by kernel_rfl) (by kernel_rfl) (fun _ _ _ h => h) (yi_assign (by kernel_rfl) rfl rfl) (by assumption) ?_
                  simp only [Act.put, List.getElem_toArray, List.getElem_cons_succ, List.getElem_cons_zero, List.setIfInBounds_toArray, List.set_cons_zero, List.set_cons_succ]
                  refine wpAnyH_done (by kernel_rfl) ?_ _
                  refine NoPanic.normal ?_
                  have HE := FIN.out _ (G4.out.step HB17)
                  go_wp2_with (first | go_skip | fail)
                  go_ret
                  exact ⟨rfl, HE⟩
end Go.Proofs.YtncoffjaggnigaaGreatDoor
