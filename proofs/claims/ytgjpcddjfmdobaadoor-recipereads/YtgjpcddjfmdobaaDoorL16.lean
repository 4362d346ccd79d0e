/- What recipe.Parse answers. -/
import Derived.Test.YtgjpcddjfmdobaaDoorL15
namespace Go.Proofs.YtgjpcddjfmdobaaDoor
open Go.RowKit
set_option linter.unusedVariables false

set_option maxRecDepth 8000 in
set_option maxHeartbeats 2000000 in
theorem Parse_long (t : List UInt8) {w W : World} (HB : Bl w W) (hl : 8192 < t.length) (hm : t.length ≤ maxLen) :
    Calls Tryd.prog 17 #[.string (M.bs t)] W fun e w' => e = .returned (.tuple #[.agg zG, .int .i64 0, .int .i64 4]) ∧ Bl w w' := by
  have HB0 : Hid (∀ o, Bl w (W.alloc o)) := fun o => HB.alloc o
  have hbs := M.bs_size t
  unfold maxLen at hm
  clear HB
  unfold zG
  go_enter Tryd.func17, Tryd.ntmps17
  go_wp2_with fail
  exact bodyPost_ret (v := .tuple #[.agg #[.slice none 0 0, .slice none 0 0], .int .i64 0, .int .i64 4]) (by simp [results, Tryd.results17, go_sem]) rfl ⟨rfl, HB0.out _⟩

/-- what Parse answers and leaves -/
def PR (w : World) (R : RC.Gr ⊕ (Nat × Nat)) (e : Ending) (w' : World) : Prop := match R with
  | .inl g => ∃ sa sc aa ac, e = .returned (.tuple #[.agg (gv g sa sc aa ac), .int .i64 0, .int .i64 0]) ∧ GA w'.heap.size w' g sa sc aa ac ∧ Bl w w'
  | .inr (k, c) => e = .returned (.tuple #[.agg zG, .int .i64 k, .int .i64 c]) ∧ Bl w w'
theorem DX.start (W : World) : DX (W.alloc (.cells zG 25)) (W.heap.size + 1 + 1) (W.heap.size + 1) ([], []) (.slice none 0 0) (.slice none 0 0) [] ((W.alloc (.cells zG 25)).alloc (.cells zG 59)) := by
  have e : (W.alloc (.cells zG 25)).heap.size = W.heap.size + 1 := by simp
  refine ⟨?_, ⟨rfl, Or.inl ⟨rfl, rfl⟩⟩, ⟨rfl, Or.inl ⟨rfl, rfl⟩⟩, rfl, fun i t x c h => by simp at h, by omega, by simp, by simp, (Bl.refl _).alloc _⟩
  rw [← e]; exact heap_alloc_new _ _

theorem DX.weak {w w2 : World} {N b : Nat} {g : RC.Gr} {vs va : Value} {xs : List (Option Addr × Nat)} {W : World} (h : DX w N b g vs va xs W) (hb : Bl w2 W) (hz : w2.heap.size ≤ b) : DX w2 N b g vs va xs W := ⟨h.blk, h.s, h.a, h.len, h.ins, h.lt, h.sz, hz, hb⟩
theorem DX.setRow {w : World} {N b r : Nat} {g : RC.Gr} {vs va : Value} {xs : List (Option Addr × Nat)} {W : World} (h : DX w N b g vs va xs W) (hr : r < b) (hw : w.heap.size ≤ r) (cs : Array Value) : DX w N b g vs va xs (W.setRow r cs) := by
  have hlt := h.lt
  refine ⟨?_, ownsRow_set h.s (by omega) cs, ownsRow_set h.a (by omega) cs, h.len, fun i t x c h1 h2 => ownsRow_set (h.ins i t x c h1 h2) (by omega) cs, h.lt, ?_, h.wb, h.bl.setRow hw cs⟩
  · show (W.heap.modify r _)[b]? = _
    rw [Array.getElem?_modify, if_neg (by omega)]; exact h.blk
  · have := h.sz
    simpa [World.setRow] using this

set_option maxRecDepth 8000 in
set_option maxHeartbeats 8000000 in
theorem Parse_x (t0 : List UInt8) {w W : World} (HB : Bl w W) (hm : MX W) (hl : t0.length ≤ 8192) :
    Calls Tryd.prog 17 #[.string (M.bs t0)] W (PR w (RC.P ([], []) 1 t0)) := by
  have hbs := M.bs_size t0
  have D0 : Hid (DX (W.alloc (.cells zG 25)) (W.heap.size + 1 + 1) (W.heap.size + 1) ([], []) (.slice none 0 0) (.slice none 0 0) [] ((W.alloc (.cells zG 25)).alloc (.cells zG 59))) := DX.start W
  obtain ⟨R, hR⟩ : ∃ R, RC.P ([], []) 1 t0 = R := ⟨_, rfl⟩
  rw [hR]
  have HRR : Hid (RC.P ([], []) 1 t0 = R) := hR
  clear hR
  have HR0 : Hid (∀ W', Bl (W.alloc (.cells zG 25)) W' → W'.heap[W.heap.size]? = some (.cells zG 25 (0, 0))) := fun W' h => by
    rw [Below.block h W.heap.size (by simp)]; exact heap_alloc_new W _
  have HMX : Hid (∀ W', Bl (W.alloc (.cells zG 25)) W' → MX W') := fun W' h => hm.bl (((Bl.refl W).alloc _).step h)
  have hws : w.heap.size ≤ W.heap.size := Below.size HB
  have HFN : Hid (∀ W' cs, Bl (W.alloc (.cells zG 25)) W' → Bl w (W'.setRow W.heap.size cs)) := fun W' cs h => ((HB.alloc _).step h).setRow hws _
  have HW0 : Hid (∀ W', Bl (W.alloc (.cells zG 25)) W' → Bl W W') := fun W' h => ((Bl.refl W).alloc _).step h
  obtain ⟨fs, hum⟩ := undG
  clear HB hm
  unfold zG at D0 HR0 HMX HFN HW0
  go_enter Tryd.func17, Tryd.ntmps17
  go_wp2_with fail
  go_loopw [0, 6, 7, 8, 9] (fun u0 u6 u7 u8 u9 wr => ∃ (t : List UInt8) (g : RC.Gr) (n : Nat) (vs va : Value) (xs : List (Option Addr × Nat)), u0 = .string (M.bs t) ∧ u6 = .int .i64 n ∧ n + t.length ≤ 8193 ∧ RC.P g n t = R ∧ RC.can g = true ∧ DX (W.alloc (.cells #[.slice none 0 0, .slice none 0 0] 25)) (W.heap.size + 1 + 1) (W.heap.size + 1) g vs va xs wr) (fun u0 _ _ _ _ _ => strLen u0)
  case atStart => exact ⟨t0, ([], []), 1, _, _, [], rfl, rfl, by omega, HRR.out, by decide, D0.out⟩
  case round =>
    obtain ⟨t, g, n, vs, va, xs, rfl, rfl, hnt, hPR, hcan, hD⟩ := hrel
    obtain ⟨S, A⟩ := g
    have HPR : Hid (RC.P (S, A) n t = R) := hPR
    have HD : Hid (DX (W.alloc (.cells #[.slice none 0 0, .slice none 0 0] 25)) (W.heap.size + 1 + 1) (W.heap.size + 1) (S, A) vs va xs wr) := hD
    have HCAN : Hid (RC.can (S, A) = true) := hcan
    have hbst := M.bs_size t
    have hem := bs_empty t
    clear hPR hD hcan D0 HRR
    by_cases ht : t = []
    · rw [decide_eq_true ht] at hem
      subst ht
      have hcs := HD.out.cs
      have hca := HD.out.ca
      have HH := HR0.out _ HD.out.bl
      have HF := HFN.out _ #[vs, va] HD.out.bl
      have hga := ((HD.out.weak (HW0.out _ HD.out.bl) (by omega)).setRow (r := W.heap.size) (by omega) (Nat.le_refl _) #[vs, va]).ga
      obtain ⟨sa, sc, aa, ac, rfl, rfl, hga⟩ := hga
      have HGA : Hid (GA (wr.setRow W.heap.size #[.slice sa S.length sc, .slice aa A.length ac]).heap.size (wr.setRow W.heap.size #[.slice sa S.length sc, .slice aa A.length ac]) (S, A) sa sc aa ac) := hga
      have HRE : Hid (R = .inl (S, A)) := HPR.out.symm.trans (RC.P_nil (S, A) n)
      clear HPR HR0 HMX HFN hga HW0
      simp only [] at hcs hca
      go_wp2_with (refine wpList_store_row rfl 25 _ _ rfl W.heap.size #[.slice sa S.length sc, .slice aa A.length ac] rfl rfl 25 _ HH infoG rfl (by simp [Value.oneCell']) ?_)
      (try simp only [Exit.inBlock, Exit.then])
      refine bodyPost_ret (results3_row rfl _ _ _ 25 #[.slice sa S.length sc, .slice aa A.length ac] (0, 0) _ rfl (setRow_heap _ _ _ _ _ _ HH) hum rfl infoG) rfl ?_
      rw [HRE.out]
      exact ⟨sa, sc, aa, ac, rfl, HGA.out, HF⟩
    · rw [decide_eq_false ht] at hem
      have htl : t.length ≤ 8193 := by omega
      cases hc : RC.cutL 10 t with
      | none =>
        have HRE : Hid (R = .inr (n, 3)) := HPR.out.symm.trans (RC.P_end (S, A) n t hc ht)
        have C1 : Hid (Calls Tryd.prog 31 #[.string (M.bs t), .string ⟨#[10]⟩] wr fun e w' => e = .returned (.tuple #[.string (M.bs t), .string (M.bs []), .bool false]) ∧ Bl wr w') := cut_no t wr (HMX.out _ HD.out.bl) (by omega) hc
        clear HPR ht hc HCAN HMX HW0
        go_wp2_with (first
          | (go_at_call 31; refine C1.out.mono ?_; rintro e w1 ⟨rfl, hb1⟩; have HH := HR0.out _ (HD.out.bl.step hb1); have HF := HFN.out _ #[.slice none 0 0, .slice none 0 0] (HD.out.bl.step hb1); clear C1 HR0 HFN hb1 HD)
          | (refine wpList_store_row rfl 25 _ _ rfl W.heap.size #[.slice none 0 0, .slice none 0 0] rfl rfl 25 _ HH infoG rfl (by simp [Value.oneCell']) ?_))
        (try simp only [Exit.inBlock, Exit.then])
        refine bodyPost_ret (results3_row rfl _ _ _ 25 #[.slice none 0 0, .slice none 0 0] (0, 0) _ rfl (setRow_heap _ _ _ _ _ _ HH) hum rfl infoG) rfl ?_
        rw [HRE.out]
        exact ⟨rfl, HF⟩
      | some pq =>
        obtain ⟨one, rest⟩ := pq
        have hcl := RC.cutL_len 10 t one rest hc
        have HPC : Hid (RC.P (S, A) n t = match RC.addL (S, A) (RC.spl 32 one) with | none => .inr (n, 24) | some g' => RC.P g' (n + 1) rest) := RC.P_cut (S, A) n t one rest hc
        have C1 : Hid (Calls Tryd.prog 31 #[.string (M.bs t), .string ⟨#[10]⟩] wr fun e w' => e = .returned (.tuple #[.string (M.bs one), .string (M.bs rest), .bool true]) ∧ Bl wr w') := cut_yes t one rest wr (HMX.out _ HD.out.bl) (by omega) hc
        obtain ⟨k0, r, hkr⟩ : ∃ k0 r, RC.spl 32 one = k0 :: r := by
          cases h : RC.spl 32 one with
          | nil => exact absurd h (RC.spl_ne 32 one)
          | cons k0 r => exact ⟨k0, r, rfl⟩
        obtain ⟨cp1, cp2, cp3, cp4⟩ := RC.can_parts HCAN.out
        have C2 : Hid (∀ w1, Bl wr w1 → Calls Tryd.prog 33 #[.string (M.bs one), .string ⟨#[32]⟩] w1 fun e w' => e = .returned (.slice (some ⟨w1.heap.size, 0, none⟩) (r.length + 1) (r.length + 1)) ∧ AD (W.alloc (.cells #[.slice none 0 0, .slice none 0 0] 25)) (W.heap.size + 1 + 1) (W.heap.size + 1) S A vs va xs k0 r w1.heap.size w') := fun w1 hb1 => by
          have h := split_x one w1 (HMX.out _ (HD.out.bl.step hb1)) (by omega)
          have hlen := spl_length 32 one
          have hmem := spl_mem_len 32 one
          rw [hkr] at h hlen hmem
          refine h.mono ?_
          rintro e w' ⟨rfl, rfl⟩
          refine ⟨by simp, HD.out.step (hb1.alloc _), ?_, fun x hx => by have := hmem x hx; omega, by simp at hlen; omega, cp1, cp2⟩
          have := strs_of_owns (TA.own_new w1 (k0 :: r) (by unfold maxLen; simp at hlen ⊢; omega))
          simpa using this
        rw [hkr] at HPC
        clear hc hkr ht HMX HW0
        cases hq : RC.addL (S, A) (k0 :: r) with
        | none =>
          have HRE : Hid (R = .inr (n, 24)) := by show _ = _; rw [← HPR.out, HPC.out, hq]
          have C3 : Hid (∀ (W' : World) (wb : Nat), AD (W.alloc (.cells #[.slice none 0 0, .slice none 0 0] 25)) (W.heap.size + 1 + 1) (W.heap.size + 1) S A vs va xs k0 r wb W' → Calls Tryd.prog 32 #[.pointer (some ⟨W.heap.size + 1, 0, none⟩), .slice (some ⟨wb, 0, none⟩) (r.length + 1) (r.length + 1)] W' fun e w' => e = .returned (.bool false) ∧ Bl (W.alloc (.cells #[.slice none 0 0, .slice none 0 0] 25)) w') := fun W' wb h => add_none h hq
          clear HPR HPC hq cp1 cp2 cp3 cp4 HCAN HD
          go_wp2_with (first
            | (go_at_call 31; refine C1.out.mono ?_; rintro e w1 ⟨rfl, hb1⟩; clear C1)
            | (go_at_call 33; refine (C2.out _ hb1).mono ?_; rintro e w2 ⟨rfl, had⟩; clear C2 hb1)
            | (go_at_call 32; refine (C3.out _ _ had).mono ?_; rintro e w3 ⟨rfl, hb3⟩; have HH := HR0.out _ hb3; have HF := HFN.out _ #[.slice none 0 0, .slice none 0 0] hb3; clear C3 had hb3 HR0 HFN)
            | (refine wpList_store_row rfl 25 _ _ rfl W.heap.size #[.slice none 0 0, .slice none 0 0] rfl rfl 25 _ HH infoG rfl (by simp [Value.oneCell']) ?_))
          (try simp only [Exit.inBlock, Exit.then])
          refine bodyPost_ret (results3_row rfl _ _ _ 25 #[.slice none 0 0, .slice none 0 0] (0, 0) _ rfl (setRow_heap _ _ _ _ _ _ HH) hum rfl infoG) rfl ?_
          rw [HRE.out]
          exact ⟨rfl, HF⟩
        | some g' =>
          have HRE : Hid (RC.P g' (n + 1) rest = R) := by show _ = _; rw [← HPR.out, HPC.out, hq]
          have HCN : Hid (RC.can g' = true) := (RC.addL_some _ _ _ HCAN.out hq).1
          have C3 : Hid (∀ (W' : World) (wb : Nat), AD (W.alloc (.cells #[.slice none 0 0, .slice none 0 0] 25)) (W.heap.size + 1 + 1) (W.heap.size + 1) S A vs va xs k0 r wb W' → Calls Tryd.prog 32 #[.pointer (some ⟨W.heap.size + 1, 0, none⟩), .slice (some ⟨wb, 0, none⟩) (r.length + 1) (r.length + 1)] W' fun e w' => ∃ vs' va' xs', e = .returned (.bool true) ∧ DX (W.alloc (.cells #[.slice none 0 0, .slice none 0 0] 25)) (W.heap.size + 1 + 1) (W.heap.size + 1) g' vs' va' xs' w') := fun W' wb h => add_some h hq
          clear HPR HPC hq cp1 cp2 cp3 cp4 HCAN HD HR0 HFN
          go_wp2_with (first
            | (go_at_call 31; refine C1.out.mono ?_; rintro e w1 ⟨rfl, hb1⟩; clear C1)
            | (go_at_call 33; refine (C2.out _ hb1).mono ?_; rintro e w2 ⟨rfl, had⟩; clear C2 hb1)
            | (go_at_call 32; refine (C3.out _ _ had).mono ?_; rintro e w3 ⟨vs', va', xs', rfl, hd3⟩; clear C3 had))
          go_roundw
          case rel => exact ⟨rest, g', n + 1, vs', va', xs', rfl, by go_num, by omega, HRE.out, HCN.out, hd3⟩
          case measure => simp [strLen, M.bs_size]; omega
end Go.Proofs.YtgjpcddjfmdobaaDoor
