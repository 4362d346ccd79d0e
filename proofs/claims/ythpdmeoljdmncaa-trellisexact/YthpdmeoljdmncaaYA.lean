/- The texts Y8a Y8b as one. -/
import Derived.Test.YthpdmeoljdmncaaXA
import Derived.Test.YthpdmeoljdmncaaTM4
import Derived.Test.YthpdmeoljdmncaaTB
/- The reference's has, At and insert. -/
namespace Go.Proofs.Ythpdmeoljdmncaa
open Go.RowKit
set_option linter.unusedVariables false
set_option linter.unusedSimpArgs false

set_option maxRecDepth 8000 in
set_option maxHeartbeats 1000000 in
theorem rhas_at (l : List (List UInt8)) (a : Option Addr) (c : Nat) (s : List UInt8) (w : World) (hv : SA w a l) (hn : l.length ≤ maxLen) :
    Calls Try.prog 25 #[.slice a l.length c, .string (M.bs s)] w fun e w' => e = .returned (.bool (decide (s ∈ l))) ∧ w' = w := by
  have HV : Hid (SA w a l) := hv
  clear hv
  unfold maxLen at hn
  go_enter Try.func25, Try.ntmps25
  go_wp2_with fail
  go_loop [5] (fun u5 => ∃ k : Nat, k ≤ l.length ∧ u5 = .int .i64 k ∧ ∀ i e, i < k → l[i]? = some e → decide (e = s) = false) (fun u5 => l.length - (intOf u5).toNat)
  case atStart => exact ⟨0, Nat.zero_le _, rfl, fun i e hi => by omega⟩
  case round =>
    obtain ⟨k, hk, rfl, hpre⟩ := hrel
    have HP : Hid (∀ i e, i < k → l[i]? = some e → decide (e = s) = false) := hpre
    clear hpre
    by_cases hlt : k < l.length
    · obtain ⟨t, ht⟩ : ∃ t, l[k]? = some t := ⟨l[k], List.getElem?_eq_getElem hlt⟩
      obtain ⟨b, off, rfl, hc⟩ := HV.out k t ht
      obtain ⟨q, hq, hb⟩ : ∃ q, decide (t = s) = q ∧ ((M.bs t).toList == (M.bs s).toList) = q := by
        refine ⟨_, rfl, ?_⟩
        simp only [Lib.toList_data, M.bs_toList]
        rw [Bool.eq_iff_iff, beq_iff_eq, decide_eq_true_eq]
      have HF : Hid (q = true → decide (s ∈ l) = true) := fun h => by
        rw [h] at hq
        rw [decide_eq_true_eq] at hq ⊢
        rw [← hq]; exact List.mem_of_getElem? ht
      have HE : Hid (q = false → ∀ i e, i < k + 1 → l[i]? = some e → decide (e = s) = false) := fun h i e hi he => by
        rcases (by omega : i < k ∨ i = k) with h' | rfl
        · exact HP.out i e h' he
        · rw [ht] at he; cases he; rw [hq]; exact h
      clear ht hq
      cases q
      · go_wp2_with fail
        go_round
        case rel => exact ⟨k + 1, by omega, by go_num, HE.out rfl⟩
        case measure => simp [intOf]; omega
      · go_wp2_with fail
        go_ret
        exact ⟨by rw [HF.out trivial]; rfl, rfl⟩
    · obtain rfl : k = l.length := by omega
      have HF : Hid (decide (s ∈ l) = false) := by
        show _ = _
        rw [decide_eq_false_iff_not]
        intro hm
        obtain ⟨i, hi, e⟩ := List.getElem_of_mem hm
        have := HP.out i s hi (by rw [List.getElem?_eq_getElem hi, e])
        simp at this
      go_wp2_with fail
      go_ret
      exact ⟨by rw [HF.out]; rfl, rfl⟩


theorem rbox_cells {W : World} {g : RC.Gr} {sa aa : Option Addr} {sc ac : Nat} {T : TypeId} {U : World} (h : Bl (W.alloc (.cells #[.slice sa g.1.length sc, .slice aa g.2.length ac] T)) U) : U.cell? ⟨W.heap.size, 0, none⟩ = some (.slice sa g.1.length sc) ∧ U.cell? ⟨W.heap.size, 1, none⟩ = some (.slice aa g.2.length ac) ∧ W.heap.size < U.heap.size ∧ Bl W U := by
  have hz : W.heap.size < (W.alloc (.cells #[.slice sa g.1.length sc, .slice aa g.2.length ac] T)).heap.size := by simp
  refine ⟨?_, ?_, Nat.lt_of_lt_of_le hz (Below.size h), ((Bl.refl W).alloc _).step h⟩
  · rw [h.cell hz, Lib.cell_of_heap (heap_alloc_new W _)]; rfl
  · rw [h.cell hz, Lib.cell_of_heap (heap_alloc_new W _)]; rfl
/-- an action's cells -/
theorem acts_cells {w U : World} {aa : Option Addr} {l : List RC.Ac} (h : Acts w.heap.size w aa l) {k : Nat} {t : RC.Ac} (ht : l[k]? = some t) : ∃ b off x c, aa = some ⟨b, off, none⟩ ∧ ∀ U, Bl w U → U.cell? ⟨b, off + k * 3, none⟩ = some (.string (M.bs t.1)) ∧ U.cell? ⟨b, off + k * 3 + 1, none⟩ = some (.slice x t.2.1.length c) ∧ TA.TS U x t.2.1 := by
  obtain ⟨b, off, x, c, rfl, hb, hr, hs⟩ := h k t ht
  refine ⟨b, off, x, c, rfl, fun U hU => ⟨?_, ?_, TA.ts_of (hs.bl hU)⟩⟩
  · rw [Bl.cell hU hb]; exact hr 0 _ rfl
  · rw [Bl.cell hU hb]; exact hr 1 _ rfl
/-- the place of an action of a name; -1: there is none -/
def plcI (g : RC.Gr) (s : List UInt8) : Int := match plc g s with | some i => (i : Int) | none => -1

set_option maxRecDepth 8000 in
set_option maxHeartbeats 1000000 in
theorem rAt_x (g : RC.Gr) (sa : Option Addr) (sc : Nat) (aa : Option Addr) (ac : Nat) (s : List UInt8) {w W : World} (HB : Bl w W) (hg : GA W.heap.size W g sa sc aa ac) (hk : grOk g) :
    Calls Try.prog 31 #[.agg (gv g sa sc aa ac), .string (M.bs s)] W fun e w' => e = .returned (.int .i64 (plcI g s)) ∧ Bl w w' := by
  have HG : Hid (Acts W.heap.size W aa g.2) := hg.a
  have HBX : Hid (∀ o, Bl W (W.alloc o)) := fun o => (Bl.refl W).alloc o
  have HBW : Hid (∀ o, Bl w (W.alloc o)) := fun o => HB.alloc o
  have hl := hk.a
  unfold maxLen at hl
  clear hg hk HB
  unfold gv
  go_enter Try.func31, Try.ntmps31
  go_wp2_with fail
  go_loop [5] (fun u5 => ∃ k : Nat, k ≤ g.2.length ∧ u5 = .int .i64 k ∧ ∀ i e, i < k → g.2[i]? = some e → decide (e.1 = s) = false) (fun u5 => g.2.length - (intOf u5).toNat)
  case atStart => exact ⟨0, Nat.zero_le _, rfl, fun i e hi => by omega⟩
  case round =>
    obtain ⟨k, hk, rfl, hpre⟩ := hrel
    have HP : Hid (∀ i e, i < k → g.2[i]? = some e → decide (e.1 = s) = false) := hpre
    clear hpre
    by_cases hlt : k < g.2.length
    · obtain ⟨t, ht⟩ : ∃ t, g.2[k]? = some t := ⟨g.2[k], List.getElem?_eq_getElem hlt⟩
      obtain ⟨b, off, x, c, rfl, hcs⟩ := acts_cells (U := W) HG.out ht
      obtain ⟨hc, _, _⟩ := hcs _ (HBX.out (.cells #[.slice sa g.1.length sc, .slice (some ⟨b, off, none⟩) g.2.length ac] 25))
      obtain ⟨q, hq, hb⟩ : ∃ q, decide (t.1 = s) = q ∧ ((M.bs t.1).toList == (M.bs s).toList) = q := by
        refine ⟨_, rfl, ?_⟩
        simp only [Lib.toList_data, M.bs_toList]
        rw [Bool.eq_iff_iff, beq_iff_eq, decide_eq_true_eq]
      have HF : Hid (q = true → plcI g s = (k : Int)) := fun h => by
        rw [h] at hq
        unfold plcI
        have : plc g s = some k := by
          unfold plc
          rw [List.findIdx?_eq_some_iff_getElem]
          refine ⟨hlt, ?_, fun j hj => ?_⟩
          · rw [List.getElem?_eq_getElem hlt] at ht; cases ht; exact hq
          · have := HP.out j g.2[j] hj (List.getElem?_eq_getElem (by omega))
            simp only [this, Bool.false_eq_true, not_false_eq_true]
        rw [this]
      have HE : Hid (q = false → ∀ i e, i < k + 1 → g.2[i]? = some e → decide (e.1 = s) = false) := fun h i e hi he => by
        rcases (by omega : i < k ∨ i = k) with h' | rfl
        · exact HP.out i e h' he
        · rw [ht] at he; cases he; rw [hq]; exact h
      clear ht hq hcs
      cases q
      · go_wp2_with fail
        go_round
        case rel => exact ⟨k + 1, by omega, by go_num, HE.out rfl⟩
        case measure => simp [intOf]; omega
      · go_wp2_with fail
        go_ret
        exact ⟨by rw [HF.out trivial]; rfl, HBW.out _⟩
    · obtain rfl : k = g.2.length := by omega
      have HF : Hid (plcI g s = -1) := by
        show _ = _
        unfold plcI
        have : plc g s = none := by
          unfold plc
          rw [List.findIdx?_eq_none_iff]
          intro e he
          obtain ⟨i, hi, rfl⟩ := List.getElem_of_mem he
          exact HP.out i _ hi (List.getElem?_eq_getElem hi)
        rw [this]
      go_wp2_with fail
      go_ret
      exact ⟨by rw [HF.out]; rfl, HBW.out _⟩

/-- a text appended to a row of one's own -/
theorem wl_app1 {ops : Array Oper} {rest : List Oper} {o : Oper} {a : Act} {w W U : World} {Q : Exit → Act → World → Prop} (hgd : o.guard = none) (s x : Operand)
    (ho : o.op = .call { callee := .builtin .append, args := #[s, x], argTypes := #[22, 22] }) (n : Nat) (ks : List (List UInt8)) (hnk : n = ks.length) (t : List UInt8) (v : Value) (hs : a.eval s = v) (hb : Bl w W) (hown : W.ownsRow w.heap.size 9 1 v n (ks.map encS))
    (hx : a.eval x = .slice (some ⟨W.heap.size, 0, none⟩) 1 1) (hn : n ≤ 90000)
    (h : ∀ a' c' w', w'.ownsRow w.heap.size 9 1 (.slice a' (n + 1) c') (n + 1) ((ks ++ [t]).map encS) → Bl w w' → wpList Try.prog ops Q rest (a.put o.dst (.slice a' (n + 1) c')) w') (hU : U = W.alloc (.cells #[.string (M.bs t)] 9)) : wpList Try.prog ops Q (o :: rest) a U := by
  subst hnk
  subst hU
  have hsz : w.heap.size ≤ (W.alloc (.cells #[.string (M.bs t)] 9)).heap.size := by
    have := Below.size hb; simp; omega
  refine TA.wl_app hgd s x ho w.heap.size ks v hs (ownsRow_belowT hown ((Bl.refl W).alloc _)) (some ⟨W.heap.size, 0, none⟩) [t] 1 1 rfl hx ?_ hsz (by simp; omega) (fun v' w' h1 h2 => ?_)
  · have := TA.ts_new W [t] 9
    simpa [encS] using this
  · rw [show (ks ++ [t]).length = ks.length + 1 by simp] at h1
    obtain ⟨a', c', rfl⟩ := own_shape h1
    exact h a' c' w' h1 (Below.grown (hb.alloc _) h2 hsz (fun q hq => (TA.owns_ge hown hq).1))
/-- a number appended to a row of one's own -/
theorem wl_appI1 {ops : Array Oper} {rest : List Oper} {o : Oper} {a : Act} {w W U : World} {Q : Exit → Act → World → Prop} (hgd : o.guard = none) (s x : Operand)
    (ho : o.op = .call { callee := .builtin .append, args := #[s, x], argTypes := #[31, 31] }) (n : Nat) (ks : List Nat) (hnk : n = ks.length) (p : Nat) (v : Value) (hs : a.eval s = v) (hb : Bl w W) (hown : W.ownsRow w.heap.size 3 1 v n (ks.map encI))
    (hx : a.eval x = .slice (some ⟨W.heap.size, 0, none⟩) 1 1) (hn : n ≤ 90000)
    (h : ∀ a' c' w', w'.ownsRow w.heap.size 3 1 (.slice a' (n + 1) c') (n + 1) ((ks ++ [p]).map encI) → Bl w w' → wpList Try.prog ops Q rest (a.put o.dst (.slice a' (n + 1) c')) w') (hU : U = W.alloc (.cells #[.int .i64 (p : Int)] 3)) : wpList Try.prog ops Q (o :: rest) a U := by
  subst hnk
  subst hU
  have hsz : w.heap.size ≤ (W.alloc (.cells #[.int .i64 (p : Int)] 3)).heap.size := by
    have := Below.size hb; simp; omega
  refine wl_appI hgd s x ho w.heap.size ks v hs (ownsRow_belowT hown ((Bl.refl W).alloc _)) W.heap.size p hx ?_ hsz (by omega) (fun a' c' w' h1 h2 => ?_)
  · rw [Lib.cell_of_heap (heap_alloc_new W _)]; rfl
  · rw [show (ks ++ [p]).length = ks.length + 1 by simp] at h1 ⊢
    exact h a' c' w' h1 (Below.grown (hb.alloc _) h2 hsz (fun q hq => (TA.owns_ge hown hq).1))

end Go.Proofs.Ythpdmeoljdmncaa

/- The reference's insert. -/
namespace Go.Proofs.Ythpdmeoljdmncaa
open Go.RowKit
set_option linter.unusedVariables false
set_option linter.unusedSimpArgs false

theorem own_len {N e k n m : Nat} {w : World} {a : Option Addr} {c : Nat} {xs : List Value} (hn : n = m) (h : w.ownsRow N e k (.slice a n c) n xs) : w.ownsRow N e k (.slice a m c) m xs := by subst hn; exact h
theorem ts_own {N : Nat} {w : World} {a : Option Addr} {c : Nat} {l : List (List UInt8)} (h : w.ownsRow N 9 1 (.slice a l.length c) l.length (l.map encS)) : TA.TS w a l := by
  obtain ⟨a', c', e, _, hs⟩ := Strs.ofOwns h
  simp only [Value.slice.injEq] at e
  rw [e.1]; exact TA.ts_of hs

set_option maxRecDepth 8000 in
set_option maxHeartbeats 2000000 in
theorem rinsert_x (l : List (List UInt8)) (la : Option Addr) (lc : Nat) (s : List UInt8) (w : World) (hv : TA.TS w la l) (hn : l.length ≤ 1000) :
    Calls Try.prog 49 #[.slice la l.length lc, .string (M.bs s)] w fun e w' => ∃ a' c', e = .returned (.slice a' (insL s l).length c') ∧ TA.TS w' a' (insL s l) ∧ Bl w w' := by
  have HV : Hid (TA.TS w la l) := hv
  have HO0 : Hid ((w.alloc (.cells #[] 9)).ownsRow w.heap.size 9 1 (.slice (some ⟨w.heap.size, 0, none⟩) 0 0) ([] : List (List UInt8)).length (([] : List (List UInt8)).map encS)) := TA.own_new w [] (by unfold maxLen; simp)
  have HB0 : Hid (Bl w (w.alloc (.cells #[] 9))) := (Bl.refl w).alloc _
  clear hv
  go_enter Try.func49, Try.ntmps49
  go_wp2_with fail
  go_loopw [5, 6, 7] (fun u5 u6 u7 wr => ∃ (k : Nat) (d : Bool) (o : List (List UInt8)) (oa : Option Addr) (oc : Nat), k ≤ l.length ∧ u5 = .slice oa o.length oc ∧ u6 = .bool d ∧ u7 = .int .i64 k ∧ wr.ownsRow w.heap.size 9 1 (.slice oa o.length oc) o.length (o.map encS) ∧ Bl w wr ∧ o ++ insR s d (l.drop k) = insL s l ∧ o.length ≤ 2 * k) (fun _ _ u7 _ => l.length - (intOf u7).toNat)
  case atStart => exact ⟨0, false, [], _, _, Nat.zero_le _, rfl, rfl, rfl, HO0.out, HB0.out, rfl, Nat.le_refl _⟩
  case round =>
    obtain ⟨k, d, o, oa, oc, hk, rfl, rfl, rfl, ho, hb, he, hol⟩ := hrel
    have HO : Hid (wr.ownsRow w.heap.size 9 1 (.slice oa o.length oc) o.length (o.map encS)) := ho
    have HB : Hid (Bl w wr) := hb
    clear ho hb HO0 HB0
    by_cases hlt : k < l.length
    · obtain ⟨x, hx⟩ : ∃ x, l[k]? = some x := ⟨l[k], List.getElem?_eq_getElem hlt⟩
      obtain ⟨b, off, rfl, hb0, hc0⟩ := HV.out k x hx
      have HCL : Hid (∀ U, Bl w U → U.cell? ⟨b, off + k, none⟩ = some (.string (M.bs x))) := fun U hU => by rw [Bl.cell hU hb0]; exact hc0
      have hc1 := HCL.out _ HB.out
      have hdr : l.drop k = x :: l.drop (k + 1) := by
        obtain ⟨h1, h2⟩ := List.getElem?_eq_some_iff.1 hx
        rw [List.drop_eq_getElem_cons h1, h2]
      rw [hdr] at he
      unfold insR at he
      obtain ⟨q1, hq1, hb1⟩ : ∃ q, decide (s ≤ x) = q ∧ (Op.bytesLess (M.bs s).toList (M.bs x).toList || (M.bs s).toList == (M.bs x).toList) = q := by
        refine ⟨_, rfl, ?_⟩
        rw [Lib.toList_data, Lib.toList_data, M.bs_toList, M.bs_toList, Go.Proofs.bytesLess_eq, Bool.eq_iff_iff]
        simp only [Bool.or_eq_true, decide_eq_true_eq, beq_iff_eq]
        exact List.le_iff_lt_or_eq.symm
      obtain ⟨q2, hq2, hb2⟩ : ∃ q, decide (x = s) = q ∧ ((M.bs x).toList == (M.bs s).toList) = q := by
        refine ⟨_, rfl, ?_⟩
        simp only [Lib.toList_data, M.bs_toList]
        rw [Bool.eq_iff_iff, beq_iff_eq, decide_eq_true_eq]
      have HE : Hid (o ++ ((if (!d && q1) = true then [s] else []) ++ ((if q2 = true then [] else [x]) ++ insR s (d || q1) (l.drop (k + 1)))) = insL s l) := by
        show _ = _
        rw [← hq1, ← hq2]; simpa using he
      clear he hdr hx hq1 hq2 hb0 hc0
      cases d <;> cases q1 <;> cases q2
      all_goals
        go_wp2_with (first
          | (refine wl_app1 rfl _ _ rfl o.length o rfl _ (.slice oa o.length oc) rfl HB.out HO.out rfl (by omega) (fun a' c' w' h1 h2 => ?_) rfl; have HO2 : Hid _ := h1; have HB2 : Hid _ := h2; have hc2 := HCL.out _ h2; clear HO HB h1 h2 hc1)
          | (refine wl_app1 rfl _ _ rfl (o.length + 1) (o ++ [s]) (by simp) _ (.slice a' (o.length + 1) c') rfl HB2.out HO2.out rfl (by omega) (fun a'' c'' w'' h1 h2 => ?_) rfl; have HO3 : Hid _ := h1; have HB3 : Hid _ := h2; have hc3 := HCL.out _ h2; clear HO2 HB2 h1 h2))
        go_roundw
        case rel =>
          first
            | exact ⟨k + 1, _, o ++ [s] ++ [x], a'', c'', by omega, by simp, rfl, by go_num, own_len (by simp) HO3.out, HB3.out, by rw [← HE.out]; simp, by simp; omega⟩
            | exact ⟨k + 1, _, o ++ [s], a', c', by omega, by simp, rfl, by go_num, own_len (by simp) HO2.out, HB2.out, by rw [← HE.out]; simp, by simp; omega⟩
            | exact ⟨k + 1, _, o, _, _, by omega, rfl, rfl, by go_num, HO.out, HB.out, by rw [← HE.out]; simp, by omega⟩
            | exact ⟨k + 1, _, o ++ [x], a', c', by omega, by simp, rfl, by go_num, own_len (by simp) HO2.out, HB2.out, by rw [← HE.out]; simp, by simp; omega⟩
        case measure => simp [intOf]; omega
    · obtain rfl : k = l.length := by omega
      have HE : Hid (o ++ insR s d [] = insL s l) := by show _ = _; rw [← he]; simp
      clear he
      cases d
      · go_wp2_with (refine wl_app1 rfl _ _ rfl o.length o rfl _ (.slice oa o.length oc) rfl HB.out HO.out rfl (by omega) (fun a' c' w' h1 h2 => ?_) rfl; have HO2 : Hid _ := h1; have HB2 : Hid _ := h2; clear HO HB h1 h2)
        go_ret
        have e := HE.out
        simp only [insR, Bool.false_eq_true, if_false] at e
        rw [← e]
        exact ⟨a', c', by simp, ts_own (own_len (by simp) HO2.out), HB2.out⟩
      · go_wp2_with fail
        go_ret
        have e := HE.out
        simp only [insR, if_true, List.append_nil] at e
        rw [← e]
        exact ⟨_, _, rfl, ts_own HO.out, HB.out⟩
end Go.Proofs.Ythpdmeoljdmncaa
