/- The reference's Code. -/
import Derived.Test.YtgjpcddjfmdobaaDoorX7a
namespace Go.Proofs.YtgjpcddjfmdobaaDoor
open Go.RowKit
set_option linter.unusedVariables false

/-- a byte in memory -/
def vB (c : UInt8) : Value := .int .u8 (c.toNat : Int)
theorem digR_at (n : Nat) (h : n < 16) (k : IntKind) (W : World) : (Instr.index 9 (.string ⟨#[48, 49, 50, 51, 52, 53, 54, 55, 56, 57, 97, 98, 99, 100, 101, 102]⟩) (.int k n)).run Tryd.prog W = .ok (vB (RC.hx n)) W := by
  have e : (⟨#[48, 49, 50, 51, 52, 53, 54, 55, 56, 57, 97, 98, 99, 100, 101, 102]⟩ : ByteArray)[n]? = some (RC.hx n) := by
    have hh : ∀ m : Fin 16, (⟨#[48, 49, 50, 51, 52, 53, 54, 55, 56, 57, 97, 98, 99, 100, 101, 102]⟩ : ByteArray)[m.val]? = some (RC.hx m.val) := by decide +kernel
    exact hh ⟨n, h⟩
  have hs : (⟨#[48, 49, 50, 51, 52, 53, 54, 55, 56, 57, 97, 98, 99, 100, 101, 102]⟩ : ByteArray).size = 16 := rfl
  simp [Instr.index, run_underlying Tryd.underlying9, asIntOf, go_sem, e, vB]
theorem strR_at (s : List UInt8) (n : Nat) (c : UInt8) (h : s[n]? = some c) (W : World) : (Instr.index 9 (.string (M.bs s)) (.int .i64 n)).run Tryd.prog W = .ok (vB c) W := by
  have e : (M.bs s)[n]? = some c := by
    have hl := (List.getElem?_eq_some_iff.1 h).1
    have h2 := M.bs_size s
    rw [getElem?_pos (M.bs s) n (by omega)]
    have : (M.bs s)[n]'(by omega) = s[n] := by simp [M.bs, ByteArray.getElem_eq_getElem_data]
    rw [this]
    rw [List.getElem?_eq_getElem hl] at h
    exact h
  simp [Instr.index, run_underlying Tryd.underlying9, asIntOf, go_sem, e, vB]
/-- bytes in memory, as a text -/
theorem conv_own {N n : Nat} {W : World} {v : Value} (l : List UInt8) (h : W.ownsRow N 5 1 v n (l.map vB)) (hl : l.length = n) (hp : 0 < n) :
    ∃ g cap, v = .slice (some ⟨g, 0, none⟩) n cap ∧ (convert 37 9 v).run Tryd.prog W = .ok (.string (M.bs l)) W := by
  obtain ⟨h0, ⟨_, h2⟩ | ⟨g, cap, cur, h1, h2, h3, h4, h5, h6, h7⟩⟩ := h
  · omega
  · refine ⟨g, cap, h1, ?_⟩
    rw [h1]
    have := run_convert_bytes_back (P := Tryd.prog) W 37 9 5 ⟨g, 0, none⟩ cap l Tryd.underlying37 Tryd.underlying5 Tryd.underlying9 (fun j hj => by
      rw [Addr.add_mid, Nat.zero_add, Lib.cell_of_heap h3]
      have h8 : (cur.toList.take (n * 1))[j]? = (l.map vB)[j]? := by rw [h7]
      rw [List.getElem?_take_of_lt (by omega), List.getElem?_map, List.getElem?_eq_getElem hj] at h8
      rw [Array.getElem?_toList] at h8
      simpa [vB] using h8)
    rw [hl] at this
    exact this
theorem own_none (W : World) : (W.alloc (.cells #[] 5)).ownsRow W.heap.size 5 1 (.slice (some ⟨W.heap.size, 0, none⟩) 0 0) 0 ([].map vB) :=
  ⟨rfl, Or.inr ⟨W.heap.size, 0, #[], rfl, Nat.le_refl _, heap_alloc_new W _, Nat.le_refl _, Nat.zero_le _, rfl, rfl⟩⟩

set_option maxRecDepth 8000 in
set_option maxHeartbeats 2000000 in
theorem rCode_at (s : List UInt8) {w W : World} (HB : Bl w W) (hs : s.length ≤ 1000) :
    Calls Tryd.prog 25 #[.string (M.bs s)] W fun e w' => e = .returned (.string (M.bs (RC.codeW s))) ∧ Bl w w' := by
  have hbs := M.bs_size s
  have hem := bs_empty s
  by_cases h0 : s = []
  · have hq : RC.codeW s = [45] := by rw [h0]; rfl
    rw [hq]
    rw [decide_eq_true h0] at hem
    clear h0 hq
    go_enter Tryd.func25, Tryd.ntmps25
    go_wp2_with fail
    go_ret
    exact ⟨rfl, HB⟩
  have HQ : Hid (RC.codeW s = RC.hexs s) := if_neg h0
  have hs0 : 0 < s.length := List.length_pos_iff.2 h0
  rw [decide_eq_false h0] at hem
  have HB0 : Hid (Bl w W) := HB
  have HO0 : Hid ((W.alloc (.cells #[] 5)).ownsRow W.heap.size 5 1 (.slice (some ⟨W.heap.size, 0, none⟩) 0 0) 0 ([].map vB)) := own_none W
  have HB1 : Hid (Below W.heap.size W (W.alloc (.cells #[] 5))) := (Below.refl _ W).alloc (Nat.le_refl _) _
  clear h0 HB
  go_enter Tryd.func25, Tryd.ntmps25
  go_wp2_with fail
  go_loopw [3, 4] (fun u3 u4 wr => ∃ k : Nat, k ≤ s.length ∧ u4 = .int .i64 k ∧ wr.ownsRow W.heap.size 5 1 u3 (2 * k) ((RC.hexs (s.take k)).map vB) ∧ Below W.heap.size W wr) (fun _ u4 _ => s.length - (intOf u4).toNat)
  case atStart => exact ⟨0, by omega, rfl, HO0.out, HB1.out⟩
  case round =>
    obtain ⟨k, hk, rfl, hown, hbe⟩ := hrel
    clear HO0 HB1
    have HOW : Hid (wr.ownsRow W.heap.size 5 1 u3 (2 * k) ((RC.hexs (s.take k)).map vB)) := hown
    have HBE : Hid (Below W.heap.size W wr) := hbe
    have hsz : W.heap.size ≤ wr.heap.size := hbe.size
    clear hown hbe
    by_cases hlt : k < s.length
    · have hg : s[k]? = some s[k] := List.getElem?_eq_getElem hlt
      obtain ⟨c, hc⟩ : ∃ c, s[k] = c := ⟨_, rfl⟩
      rw [hc] at hg
      have HHX : Hid ((RC.hexs (s.take (k + 1))).map vB = (RC.hexs (s.take k)).map vB ++ [vB (RC.hx (c.toNat / 16)), vB (RC.hx (c.toNat % 16))]) := by
        show _ = _
        rw [List.take_add_one, hg]
        simp [RC.hexs, RC.hex2]
      have hcl := c.toNat_lt
      have dS := strR_at s k c hg
      have d1 := digR_at (c.toNat / 16) (by omega)
      have d2 := digR_at (c.toNat % 16) (by omega)
      have e1 : Int.tdiv (c.toNat : Int) 16 = ((c.toNat / 16 : Nat) : Int) := by rw [Int.tdiv_eq_ediv_of_nonneg (by omega)]; omega
      have e2 : Int.tmod (c.toNat : Int) 16 = ((c.toNat % 16 : Nat) : Int) := by rw [Int.tmod_eq_emod_of_nonneg (by omega)]; omega
      have e3 : IntKind.u8.wrap (((c.toNat / 16 : Nat) : Int)) = ((c.toNat / 16 : Nat) : Int) := by rw [IntKind.wrap_u8]; omega
      have e4 : IntKind.u8.wrap (((c.toNat % 16 : Nat) : Int)) = ((c.toNat % 16 : Nat) : Int) := by rw [IntKind.wrap_u8]; omega
      obtain ⟨m1, hm1⟩ : ∃ m, m = c.toNat / 16 := ⟨_, rfl⟩
      obtain ⟨m2, hm2⟩ : ∃ m, m = c.toNat % 16 := ⟨_, rfl⟩
      rw [← hm1] at d1 e1 e3 HHX
      rw [← hm2] at d2 e2 e4 HHX
      clear hm1 hm2 hc hg
      obtain ⟨i0, hi, hz0, hz1, hz2⟩ := TA.info_partsT (show (Tryd.prog.info? 5).map (fun i => (i.zero, i.size, i.bytes)) = some (some (.int .u8 0), 1, 1) by kernel_rfl)
      obtain ⟨y1, hy1⟩ : ∃ y, y = RC.hx m1 := ⟨_, rfl⟩
      obtain ⟨y2, hy2⟩ : ∃ y, y = RC.hx m2 := ⟨_, rfl⟩
      rw [← hy1] at d1 HHX
      rw [← hy2] at d2 HHX
      clear hy1 hy2
      unfold vB at dS d1 d2
      have OWN : Hid (∀ o, (wr.drew.alloc o).ownsRow W.heap.size 5 1 u3 (2 * k) ((RC.hexs (s.take k)).map vB)) := fun o => ownsRow_belowT HOW.out (((Bl.refl wr).drewN 1).alloc o)
      have NEWS : Hid (∀ (j : Nat) (u : Value), [vB y1, vB y2][j]? = some u → (wr.drew.alloc (.cells #[.int .u8 (y1.toNat : Int), .int .u8 (y2.toNat : Int)] 5)).cell? ((⟨wr.heap.size, 0, none⟩ : Addr).add j) = some u) := fun j u hu => World.news_of_block (heap_alloc_new wr.drew _) j u hu
      have FIN : Hid (∀ o w9, (wr.drew.alloc o).grownBy w9 u3.ownBlock → Below W.heap.size W w9) := fun o w9 hg => by
        have hb : Below W.heap.size W (wr.drew.alloc o) := HBE.out.trans ((((Bl.refl wr).drewN 1).alloc o : Below wr.heap.size wr _).mono hsz)
        exact hb.grown hg hb.size (fun q hq => (TA.owns_ge HOW.out hq).1)
      go_wp2_with fail
      go_region_law (refine step_append_lies _ (by rfl) _ _ 37 (by rfl) W.heap.size 5 i0 (.int .u8 0) 1 1 Tryd.underlying37 hi hz0 hz1 hz2 rfl (by decide) _ (2 * k) _ (by rfl) (OWN.out _) ⟨wr.heap.size, 0, none⟩ 2 2 [vB y1, vB y2] (by rfl) rfl NEWS.out (fun u hu => by simp at hu; rcases hu with rfl | rfl <;> rfl) (by decide) (by unfold maxLen; omega) (by omega) (by simp; omega) (wr.heap.size + 1) (by simp) ?_; intro g cap' w9 hown9 hgrow9 hat9 hlt9)
      all_goals
        have HO9 : Hid (w9.ownsRow W.heap.size 5 1 (.slice (some ⟨g, 0, none⟩) (2 * k + 2) cap') (2 * (k + 1)) ((RC.hexs (s.take (k + 1))).map vB)) := by
          show World.ownsRow _ _ _ _ _ _ _
          rw [HHX.out]; exact hown9
        have HB9 : Hid (Below W.heap.size W w9) := FIN.out _ _ hgrow9
        clear hown9 hgrow9 hat9
        go_wp2_with fail
        go_roundw
        case rel => exact ⟨k + 1, by omega, by go_num, HO9.out, HB9.out⟩
        case measure => simp [intOf]; omega
    · obtain rfl : k = s.length := by omega
      have hfull := HOW.out
      rw [List.take_length] at hfull
      obtain ⟨g, cap, rfl, hcv⟩ := conv_own (RC.hexs s) hfull (RC.hexs_length s) (by omega)
      clear HOW hfull
      go_wp2_with fail
      go_ret
      exact ⟨by rw [HQ.out]; rfl, HB0.out.step HBE.out⟩
end Go.Proofs.YtgjpcddjfmdobaaDoor
