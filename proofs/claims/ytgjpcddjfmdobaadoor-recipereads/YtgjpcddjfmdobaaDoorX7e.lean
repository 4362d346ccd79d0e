/- The reference's digit and code. -/
import Derived.Test.YtgjpcddjfmdobaaDoorX7b
namespace Go.Proofs.YtgjpcddjfmdobaaDoor
open Go.RowKit
set_option linter.unusedVariables false

/-- a byte is appended to a row of one's own -/
theorem wl_app8 {ops : Array Oper} {rest : List Oper} {o : Oper} {a : Act} {w : World} {Q : Exit → Act → World → Prop} (hgd : o.guard = none) (s x : Operand)
    (ho : o.op = .call { callee := .builtin .append, args := #[s, x], argTypes := #[37, 37] }) (base : Nat) (l : List UInt8) (v : Value) (hs : a.eval s = v) (hown : w.ownsRow base 5 1 v l.length (l.map vB))
    (g0 : Nat) (y : UInt8) (c : Nat) (hx : a.eval x = .slice (some ⟨g0, 0, none⟩) 1 c) (hcell : w.cell? ⟨g0, 0, none⟩ = some (vB y)) (hbase : base ≤ w.heap.size) (hn : l.length ≤ 100000)
    (h : ∀ v' w', w'.ownsRow base 5 1 v' (l ++ [y]).length ((l ++ [y]).map vB) → w.grownBy w' v.ownBlock → wpList Tryd.prog ops Q rest (a.put o.dst v') w') : wpList Tryd.prog ops Q (o :: rest) a w := by
  obtain ⟨i0, hi0, hz0, hz1, hz2⟩ := TA.info_partsT (show (Tryd.prog.info? 5).map (fun i => (i.zero, i.size, i.bytes)) = some (some (.int .u8 0), 1, 1) by kernel_rfl)
  refine wpList_append_lies _ hgd s x 37 ho base 5 i0 (.int .u8 0) 1 1 Tryd.underlying37 hi0 hz0 hz1 hz2 rfl (by decide) v l.length (l.map vB) hs hown ⟨g0, 0, none⟩ 1 c [vB y] hx (by simp) (fun j u hu => ?_) (fun u hu => by simp at hu; subst hu; rfl) (by decide) (by unfold maxLen; omega) (by omega) hbase w.heap.size rfl (fun g cap w' h1 h2 h3 h4 => ?_)
  · rcases j with _ | j
    · simp at hu; subst hu
      rw [Addr.add_mid]; exact hcell
    · simp at hu
  · exact h _ w' (by rw [List.length_append, List.map_append]; exact h1) h2
theorem dig_of (k : Nat) (hk : k < 16) : RC.dig (RC.hx k) = (k : Int) := RC.dig_hx ⟨k, hk⟩
theorem dig_none (c : UInt8) (h : ∀ i, i < 16 → RC.hx i ≠ c) : RC.dig c = -1 := by
  rcases RC.hx_dig' c with h1 | ⟨h1, h2⟩
  · have := (dig_bd c).1; omega
  · exact absurd h2 (h _ h1)
set_option maxHeartbeats 2000000 in
theorem rdigit_at (c : UInt8) (w : World) :
    Calls Tryd.prog 59 #[.int .u8 (c.toNat : Int)] w fun e w' => e = .returned (.int .i64 (RC.dig c)) ∧ w' = w := by
  go_enter Tryd.func59, Tryd.ntmps59
  go_wp2_with fail
  go_loop [3] (fun u3 => ∃ k : Nat, k ≤ 16 ∧ u3 = .int .i64 k ∧ ∀ i, i < k → RC.hx i ≠ c) (fun u3 => 16 - (intOf u3).toNat)
  case atStart => exact ⟨0, Nat.zero_le _, rfl, fun i h => by omega⟩
  case round =>
    obtain ⟨k, hk, rfl, ha⟩ := hrel
    have HA : Hid (∀ i, i < k → RC.hx i ≠ c) := ha
    clear ha
    by_cases hlt : k < 16
    · have d1 := digR_at k hlt
      have hdo := dig_of k hlt
      unfold vB at d1
      by_cases he : RC.hx k = c
      · rw [he] at d1 hdo
        have HD : Hid (RC.dig c = (k : Int)) := hdo
        clear he hdo HA
        go_wp2_with fail
        go_ret
        exact ⟨by rw [HD.out]; rfl, rfl⟩
      · have hb : (((RC.hx k).toNat : Int) == (c.toNat : Int)) = false := by
          rw [beq_eq_false_iff_ne]
          intro e
          exact he (UInt8.toNat_inj.1 (by omega))
        have HN : Hid (∀ i, i < k + 1 → RC.hx i ≠ c) := fun i hi => by
          rcases (by omega : i < k ∨ i = k) with h' | rfl
          · exact HA.out i h'
          · exact he
        clear he hdo HA
        go_wp2_with fail
        go_round
        case rel => exact ⟨k + 1, by omega, by go_num, HN.out⟩
        case measure => simp [intOf]; omega
    · obtain rfl : k = 16 := by omega
      have HD : Hid (RC.dig c = -1) := dig_none c HA.out
      clear HA
      go_wp2_with fail
      go_ret
      exact ⟨by rw [HD.out]; rfl, rfl⟩
theorem sum16 (x y : Int) (h1 : 0 ≤ x) (h2 : x ≤ 15) (h3 : 0 ≤ y) (h4 : y ≤ 15) : IntKind.u8.wrap (16 * x + y) = ((UInt8.ofNat (x.toNat * 16 + y.toNat)).toNat : Int) := by
  have h : ∀ a b : Fin 16, IntKind.u8.wrap (16 * (a.val : Int) + (b.val : Int)) = ((UInt8.ofNat (a.val * 16 + b.val)).toNat : Int) := by decide +kernel
  have := h ⟨x.toNat, by omega⟩ ⟨y.toNat, by omega⟩
  simp only [Int.toNat_of_nonneg h1, Int.toNat_of_nonneg h3] at this
  exact this
set_option maxRecDepth 8000 in
set_option maxHeartbeats 2000000 in
theorem rcode_at (s : List UInt8) {w W : World} (HB : Bl w W) (hs : s.length ≤ 100000) :
    Calls Tryd.prog 47 #[.string (M.bs s)] W fun e w' => e = .returned (tbV (RC.readC s)) ∧ Bl w w' := by
  have hbs := M.bs_size s
  have hem := bs_empty s
  have heq := bs_eqW s [45]
  by_cases h0 : s = [45]
  · have hq : RC.readC s = some [] := by rw [h0]; rfl
    rw [hq]
    rw [decide_eq_true h0] at heq
    clear h0 hq
    unfold tbV
    go_enter Tryd.func47, Tryd.ntmps47
    go_wp2_with fail
    go_ret2
    exact ⟨rfl, HB⟩
  rw [decide_eq_false h0] at heq
  have htm : Int.tmod (s.length : Int) 2 = (s.length : Int) % 2 := Int.tmod_eq_emod_of_nonneg (by omega)
  by_cases h1 : s = [] ∨ s.length % 2 ≠ 0 ∨ 128 < s.length
  · have hq : RC.readC s = none := by unfold RC.readC; rw [if_neg h0, if_pos h1]
    rw [hq]
    unfold tbV
    have HB0 : Hid (Bl w W) := HB
    clear h0 hq HB
    by_cases he : s = []
    · rw [decide_eq_true he] at hem
      clear h1 he
      go_enter Tryd.func47, Tryd.ntmps47
      go_wp2_with fail
      go_ret2
      exact ⟨rfl, HB0.out⟩
    · rw [decide_eq_false he] at hem
      by_cases hr : s.length % 2 ≠ 0
      · have hm : ((s.length : Int) % 2 != 0) = true := by rw [bne_iff_ne]; omega
        clear h1 he hr
        go_enter Tryd.func47, Tryd.ntmps47
        go_wp2_with fail
        go_ret2
        exact ⟨rfl, HB0.out⟩
      · have hm : ((s.length : Int) % 2 != 0) = false := by simp; omega
        have hl : 128 < s.length := by rcases h1 with h | h | h; exact absurd h he; exact absurd h hr; exact h
        clear h1 he hr
        go_enter Tryd.func47, Tryd.ntmps47
        go_wp2_with fail
        go_ret2
        exact ⟨rfl, HB0.out⟩
  have HQ : Hid (RC.readC s = RC.readH s) := by show _ = _; unfold RC.readC; rw [if_neg h0, if_neg h1]
  have he : s ≠ [] := fun e => h1 (Or.inl e)
  have hpos : 0 < s.length := List.length_pos_iff.2 he
  rw [decide_eq_false he] at hem
  have hev : s.length % 2 = 0 := by omega
  have hm : ((s.length : Int) % 2 != 0) = false := by simp; omega
  have hl : s.length ≤ 128 := by omega
  have HB0 : Hid (Bl w W) := HB
  clear h0 h1 he HB
  have HO0 : Hid ((W.alloc (.cells #[] 5)).ownsRow W.heap.size 5 1 (.slice (some ⟨W.heap.size, 0, none⟩) 0 0) ([] : List UInt8).length (([] : List UInt8).map vB)) := own_none W
  have HB1 : Hid (Below W.heap.size W (W.alloc (.cells #[] 5))) := (Below.refl _ W).alloc (Nat.le_refl _) _
  go_enter Tryd.func47, Tryd.ntmps47
  go_wp2_with fail
  go_loopw [4, 5, 6, 7] (fun u4 u5 u6 u7 wr => ∃ (j : Nat) (pre : List UInt8), 2 * j ≤ s.length ∧ pre.length = j ∧ u5 = .int .i64 ((2 * j : Nat) : Int) ∧ RC.readH s = (RC.readH (s.drop (2 * j))).map (pre ++ ·) ∧ wr.ownsRow W.heap.size 5 1 u4 pre.length (pre.map vB) ∧ Below W.heap.size W wr) (fun _ u5 _ _ _ => s.length - (intOf u5).toNat)
  case atStart => exact ⟨0, [], Nat.zero_le _, rfl, rfl, by simp, HO0.out, HB1.out⟩
  case round =>
    obtain ⟨j, pre, hj, hpj, rfl, hrd, hown, hbe⟩ := hrel
    clear HO0 HB1
    have hsz := hbe.size
    have HOW : Hid (wr.ownsRow W.heap.size 5 1 u4 pre.length (pre.map vB)) := hown
    have HBE : Hid (Below W.heap.size W wr) := hbe
    have HRD : Hid (RC.readH s = (RC.readH (s.drop (2 * j))).map (pre ++ ·)) := hrd
    clear hown hbe hrd
    obtain ⟨k, hkk⟩ : ∃ k, 2 * j = k := ⟨_, rfl⟩
    rw [hkk] at hj HRD ⊢
    by_cases hlt : k < s.length
    · have hlt2 : k + 1 < s.length := by omega
      have hs0 : (M.bs s)[k]'(by omega) = s[k] := by simp [M.bs, ByteArray.getElem_eq_getElem_data]
      have hs1 : (M.bs s)[k + 1]'(by omega) = s[k + 1] := by simp [M.bs, ByteArray.getElem_eq_getElem_data]
      have hdr : s.drop k = s[k] :: s[k + 1] :: s.drop (k + 2) := by rw [List.drop_eq_getElem_cons hlt, List.drop_eq_getElem_cons hlt2]
      rw [hdr] at HRD
      generalize s[k] = a at *
      generalize s[k + 1] = b at *
      clear hdr
      have hda := dig_bd a
      have hdb := dig_bd b
      have hn := readH_no a b (s.drop (k + 2))
      have hy := readH_two a b (s.drop (k + 2))
      have CA : Hid (∀ W', Calls Tryd.prog 59 #[.int .u8 a.toNat] W' fun e w' => e = .returned (.int .i64 (RC.dig a)) ∧ w' = W') := rdigit_at a
      have CB : Hid (∀ W', Calls Tryd.prog 59 #[.int .u8 b.toNat] W' fun e w' => e = .returned (.int .i64 (RC.dig b)) ∧ w' = W') := rdigit_at b
      generalize RC.dig a = da at *
      generalize RC.dig b = db at *
      by_cases hneg : da < 0 ∨ db < 0
      · have HN : Hid (RC.readH s = none) := by show _ = _; rw [HRD.out, hn hneg]; rfl
        clear hn hy HRD
        by_cases h1 : da < 0
        all_goals
          first
            | have h2 : db < 0 := by omega
            | skip
          clear hneg
          go_wp2_with (first
            | (go_at_call 59; refine (CA.out _).mono ?_; rintro e w' ⟨rfl, hw⟩; rw [hw]; clear hw w' CA)
            | (go_at_call 59; refine (CB.out _).mono ?_; rintro e w' ⟨rfl, hw⟩; rw [hw]; clear hw w' CB))
          go_ret2
          exact ⟨by rw [HQ.out, HN.out]; rfl, HB0.out.step HBE.out⟩
      · have h1 : 0 ≤ da := by omega
        have h2 : 0 ≤ db := by omega
        have HY : Hid (RC.readH s = (RC.readH (s.drop (k + 2))).map ((pre ++ [UInt8.ofNat (da.toNat * 16 + db.toNat)]) ++ ·)) := by
          show _ = _
          rw [HRD.out, hy h1 h2]
          cases RC.readH (s.drop (k + 2)) <;> simp
        have hor := sum16 da db h1 hda.2 h2 hdb.2
        generalize UInt8.ofNat (da.toNat * 16 + db.toNat) = cc at *
        have h16 : IntKind.i64.wrap (16 * da) = 16 * da := by first | (rw [IntKind.wrap_i64]; omega) | (simp [IntKind.wrap]; omega)
        have h17 : IntKind.i64.wrap (16 * da + db) = 16 * da + db := by first | (rw [IntKind.wrap_i64]; omega) | (simp [IntKind.wrap]; omega)
        have OWN : Hid (∀ o, (wr.alloc o).ownsRow W.heap.size 5 1 u4 pre.length (pre.map vB)) := fun o => ownsRow_belowT HOW.out ((Bl.refl wr).alloc o)
        have NEW : Hid ((wr.alloc (.cells #[.int .u8 (cc.toNat : Int)] 5)).cell? ⟨wr.heap.size, 0, none⟩ = some (vB cc)) := by
          show _ = _
          rw [Lib.cell_of_heap (heap_alloc_new wr _)]; rfl
        have FIN : Hid (∀ o w9, (wr.alloc o).grownBy w9 u4.ownBlock → Below W.heap.size W w9) := fun o w9 hg => by
          have hb : Below W.heap.size W (wr.alloc o) := HBE.out.trans (((Bl.refl wr).alloc o : Below wr.heap.size wr _).mono hsz)
          exact hb.grown hg hb.size (fun q hq => (TA.owns_ge HOW.out hq).1)
        clear hn hy HRD hneg HOW HBE
        go_wp2_with (first
            | (go_at_call 59; refine (CA.out _).mono ?_; rintro e w' ⟨rfl, hw⟩; rw [hw]; clear hw w' CA)
            | (go_at_call 59; refine (CB.out _).mono ?_; rintro e w' ⟨rfl, hw⟩; rw [hw]; clear hw w' CB)
            | (refine wl_app8 rfl _ _ rfl W.heap.size pre _ rfl (OWN.out _) wr.heap.size cc 1 rfl NEW.out (by simp; omega) (by omega) ?_; intro v9 w9 hown9 hg9; have HB9 := FIN.out _ _ hg9; clear OWN NEW FIN hg9))
        go_roundw
        case rel => exact ⟨j + 1, pre ++ [cc], by omega, by simp [hpj], by rw [show 2 * (j + 1) = k + 2 by omega]; go_num, by rw [show 2 * (j + 1) = k + 2 by omega]; exact HY.out, hown9, HB9⟩
        case measure => simp [intOf]; omega
    · obtain rfl : k = s.length := by omega
      have e : RC.readH s = some pre := by rw [HRD.out]; simp [RC.readH]
      obtain ⟨g, cap, rfl, hcv⟩ := conv_own pre HOW.out rfl (by omega)
      rw [hpj] at hcv
      have HE : Hid (RC.readH s = some pre) := e
      clear e HOW HRD
      go_wp2_with fail
      go_ret2
      exact ⟨by rw [HQ.out, HE.out]; rfl, HB0.out.step HBE.out⟩
end Go.Proofs.YtgjpcddjfmdobaaDoor
