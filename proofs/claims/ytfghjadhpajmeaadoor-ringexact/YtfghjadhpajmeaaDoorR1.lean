/- What apiaryref01.Num, Text and Row answer: the same bytes. -/
import Derived.Test.YtfghjadhpajmeaaDoorW9
namespace Go.Proofs.YtfghjadhpajmeaaDoor
open Go.RowKit
set_option linter.unusedVariables false

theorem cnt_succ (q : Nat) (h0 : 0 < q) (h : q < 18446744073709551616) : M.cnt q = M.cnt (q / 256) + 1 := by
  by_cases hq : q / 256 = 0
  · rw [hq]
    exact M.cnt_unique q 1 (by omega) (by simp; omega) (by simp; omega) (by omega)
  · have hp := M.cnt_pos (q / 256) hq
    have h1 := M.cnt_lo (q / 256) hp
    have h2 := M.cnt_hi (q / 256) (by omega)
    have h8 := M.cnt_le (q / 256)
    obtain ⟨k, hk⟩ : ∃ k, M.cnt (q / 256) = k + 1 := ⟨M.cnt (q / 256) - 1, by omega⟩
    rw [hk] at h1 h2 h8 ⊢
    simp only [Nat.add_sub_cancel] at h1
    rw [Nat.pow_succ] at h2
    have hk7 : k ≤ 6 := by
      rcases Nat.lt_or_ge 6 k with h | h
      · have : k = 7 := by omega
        subst this
        simp at h1
        omega
      · exact h
    refine M.cnt_unique q (k + 1 + 1) (by omega) ?_ ?_ (by omega)
    · simp only [Nat.add_sub_cancel, Nat.pow_succ]; omega
    · simp only [Nat.pow_succ]; omega
theorem bytesK_step (q : Nat) (h0 : 0 < q) (h : q < 18446744073709551616) : M.bytesK (M.cnt q) q = M.bytesK (M.cnt (q / 256)) (q / 256) ++ [UInt8.ofNat (q % 256)] := by
  rw [cnt_succ q h0 h]; rfl

theorem conv1 (w : World) (X : Int) (c : UInt8) (hX : X = (c.toNat : Int)) :
    (convert 45 9 (.slice (some ⟨w.heap.size, 0, none⟩) 1 1)).run Tryd.prog (w.alloc (.cells #[.int .u8 X] 5)) = .ok (.string (M.bs [c])) (w.alloc (.cells #[.int .u8 X] 5)) :=
  run_convert_bytes_back (P := Tryd.prog) _ 45 9 5 ⟨w.heap.size, 0, none⟩ 1 [c] Tryd.underlying45 Tryd.underlying5 Tryd.underlying9 (fun j hj => by
    have h := World.cell?_alloc_mark w #[.int .u8 X] 5 (0, 0) j
    have e : (⟨w.heap.size, 0, none⟩ : Addr).add j = ⟨w.heap.size, j, none⟩ := by unfold Addr.add; split <;> simp_all
    rw [e, h]
    have hj0 : j = 0 := by simpa using hj
    subst hj0
    simp [hX])

set_option maxHeartbeats 1000000 in
theorem refNum_at (n : Int) (m f : Nat) (fI : Int) (w : World) (hm : m < 9223372036854775808) (hn : (n = (m : Int) ∧ f = 0 ∧ fI = 0) ∨ (n = -1 - (m : Int) ∧ f = 128 ∧ fI = 128)) (hmag : M.mag n = m) (hmk : M.mark n = f) :
    Calls Tryd.prog 21 #[.int .i64 n] w fun e w' => e = .returned (.string (M.bs (M.numB n))) ∧ Below w.heap.size w w' := by
  have hneg : (-1 : Int) - (-1 - (m : Int)) = m := by omega
  have hd1 : decide ((m : Int) < 0) = false := decide_eq_false (by omega)
  have hd2 : decide (-1 - (m : Int) < 0) = true := decide_eq_true (by omega)
  generalize hout : M.numB n = out
  have HO : Hid (M.numB n = out) := hout
  have HMA : Hid (M.mag n = m) := hmag
  have HMK : Hid (M.mark n = f) := hmk
  clear hout hmag hmk
  rcases hn with ⟨rfl, rfl, rfl⟩ | ⟨rfl, rfl, rfl⟩
  all_goals
    go_enter Tryd.func21, Tryd.ntmps21
    go_wp2_with fail
    go_loopw [0, 4] (fun u0 u4 wr => ∃ (q : Nat) (bl : List UInt8) (g cap : Nat), u0 = .int .i64 q ∧ q ≤ m ∧ u4 = .slice (some ⟨g, 0, none⟩) bl.length cap ∧ M.bytesK (M.cnt m) m = M.bytesK (M.cnt q) q ++ bl ∧ (∀ i c, bl[i]? = some c → wr.cell? ⟨g, i, none⟩ = some (.int .u8 (c.toNat : Int))) ∧ g < wr.heap.size ∧ Below w.heap.size w wr) (fun u0 _ _ => (intOf u0).toNat)
    case atStart => exact ⟨m, [], w.heap.size, 0, rfl, Nat.le_refl _, rfl, by simp, by simp, by simp, (Below.refl _ w).alloc (Nat.le_refl _) _⟩
    case round =>
      obtain ⟨q, bl, g, cap, rfl, hqm, rfl, hbl, hcl, hg, hbe⟩ := hrel
      have HBL : Hid (M.bytesK (M.cnt m) m = M.bytesK (M.cnt q) q ++ bl) := hbl
      have HCL : Hid (∀ i c, bl[i]? = some c → wr.cell? ⟨g, i, none⟩ = some (.int .u8 (c.toNat : Int))) := hcl
      have HBE : Hid (Below w.heap.size w wr) := hbe
      have hsz := hbe.size
      clear hbl hcl hbe
      by_cases hlt : 0 < q
      · obtain ⟨i0, hi, hz0, hz1, hz2⟩ := info_parts (show (Tryd.prog.info? 5).map (fun i => (i.zero, i.size, i.bytes)) = some (some (.int .u8 0), 1, 1) by kernel_rfl)
        have hlen := congrArg List.length HBL.out
        rw [M.bytesK_length, List.length_append, M.bytesK_length] at hlen
        have h8 := M.cnt_le m
        have hbl8 : bl.length ≤ 8 := by omega
        clear hlen h8
        have HOW : Hid ((wr.alloc (.cells #[.int .u8 ((q : Int) % 256)] 5)).ownsRow w.heap.size 5 1 (.slice (some ⟨wr.heap.size, 0, none⟩) 1 1) 1 [.int .u8 ((q : Int) % 256)]) :=
          ⟨rfl, Or.inr ⟨wr.heap.size, 1, #[.int .u8 ((q : Int) % 256)], rfl, hsz, by show (wr.heap.push _)[wr.heap.size]? = _; simp, Nat.le_refl _, by decide, rfl, rfl⟩⟩
        have HNE : Hid (∀ j u, (Lib.byteCells bl)[j]? = some u → (wr.alloc (.cells #[.int .u8 ((q : Int) % 256)] 5)).cell? ((⟨g, 0, none⟩ : Addr).add j) = some u) := fun j u hu => by
          have e : (⟨g, 0, none⟩ : Addr).add j = ⟨g, j, none⟩ := by unfold Addr.add; split <;> simp_all
          have hb1 : Below wr.heap.size wr (wr.alloc (.cells #[.int .u8 ((q : Int) % 256)] 5)) := (Below.refl _ _).alloc (Nat.le_refl _) _
          rw [e, hb1.cell (p := ⟨g, j, none⟩) hg]
          unfold Lib.byteCells at hu
          rw [List.getElem?_map] at hu
          cases hc : bl[j]? with
          | none => rw [hc] at hu; simp at hu
          | some c => rw [hc] at hu; simp only [Option.map_some, Option.some.injEq] at hu; rw [← hu]; exact HCL.out j c hc
        have hone : ∀ u ∈ Lib.byteCells bl, u.oneCell' = true := Lib.strCells_oneCell (M.bs bl)
        have HONE : Hid (∀ u ∈ Lib.byteCells bl, u.oneCell' = true) := by
          intro u hu
          simp only [Lib.byteCells, List.mem_map] at hu
          obtain ⟨b, _, rfl⟩ := hu
          rfl
        clear hone
        have HBE1 : Hid (Below w.heap.size w (wr.alloc (.cells #[.int .u8 ((q : Int) % 256)] 5))) := HBE.out.alloc hsz _
        go_wp2_with (at_builtin; refine wpList_append_own _ rfl _ _ 45 rfl w.heap.size 5 i0 (.int .u8 0) 1 1 Tryd.underlying45 hi hz0 hz1 hz2 rfl (by decide) _ _ _ rfl HOW.out ⟨g, 0, none⟩ bl.length cap (Lib.byteCells bl) rfl (by rw [Lib.byteCells_length]; omega) HNE.out HONE.out (by unfold maxLen; omega) (by omega) (by simp; omega) ?_)
        intro v' w2 hown hgrow _
        have hsh : ∃ g2 cap2, v' = .slice (some ⟨g2, 0, none⟩) (1 + bl.length) cap2 ∧ g2 < w2.heap.size ∧ ∀ i c, (UInt8.ofNat (q % 256) :: bl)[i]? = some c → w2.cell? ⟨g2, i, none⟩ = some (.int .u8 (c.toNat : Int)) := by
          obtain ⟨h0, ⟨_, h1⟩ | ⟨g2, cap2, cur, h1, h2, h3, h4, h5, h6, h7⟩⟩ := hown
          · omega
          · have hg2 : g2 < w2.heap.size := by
              rcases Nat.lt_or_ge g2 w2.heap.size with h | h
              · exact h
              · rw [Array.getElem?_eq_none h] at h3; simp at h3
            refine ⟨g2, cap2, h1, hg2, ?_⟩
            intro i c hc
            have hic : i < bl.length + 1 := by have := (List.getElem?_eq_some_iff.1 hc).1; simpa using this
            rw [Lib.cell_of_heap h3]
            have h8 : (cur.toList.take ((1 + bl.length) * 1))[i]? = ([Value.int .u8 ((q : Int) % 256)] ++ Lib.byteCells bl)[i]? := by rw [h7]; rfl
            rw [List.getElem?_take_of_lt (by omega)] at h8
            have h9 : ([Value.int .u8 ((q : Int) % 256)] ++ Lib.byteCells bl)[i]? = ((UInt8.ofNat (q % 256) :: bl).map (fun b => Value.int .u8 (b.toNat : Int)))[i]? := by
              have e : (UInt8.ofNat (q % 256)).toNat = q % 256 := by simp
              simp only [Lib.byteCells, List.map_cons, e, List.singleton_append]
              rfl
            rw [h9, List.getElem?_map, hc] at h8
            simpa using h8
        obtain ⟨g2, cap2, rfl, hg2, hcl2⟩ := hsh
        have HCL2 : Hid (∀ i c, (UInt8.ofNat (q % 256) :: bl)[i]? = some c → w2.cell? ⟨g2, i, none⟩ = some (.int .u8 (c.toNat : Int))) := hcl2
        have HB2 : Hid (Below w.heap.size w w2) := HBE1.out.grown hgrow (by simp; omega) (fun k hk => by simp [Value.ownBlock] at hk; omega)
        clear hown hgrow hcl2 hi hz0 hz1 hz2 HCL HNE HONE HOW HBE1 HBE
        go_wp2_with fail
        exact ⟨⟨q / 256, UInt8.ofNat (q % 256) :: bl, g2, cap2, by go_num, by omega, by rw [List.length_cons, Nat.add_comm], by rw [HBL.out, bytesK_step q hlt (by omega)]; simp, HCL2.out, hg2, HB2.out⟩, by simp [intOf]; omega⟩
      · obtain rfl : q = 0 := by omega
        have ebl : M.bytesK (M.cnt m) m = bl := HBL.out
        have hlb : bl.length = M.cnt m := by rw [← ebl, M.bytesK_length]
        have h8 := M.cnt_le m
        have HEB : Hid (M.bytesK (M.cnt m) m = bl) := ebl
        have HLB : Hid (bl.length = M.cnt m) := hlb
        have hl8 : bl.length ≤ 8 := by omega
        obtain ⟨cA, hA⟩ : ∃ c, c = UInt8.ofNat (0 + bl.length) := ⟨_, rfl⟩
        obtain ⟨cB, hB⟩ : ∃ c, c = UInt8.ofNat (128 + bl.length) := ⟨_, rfl⟩
        have hcA := conv1 wr (bl.length : Int) cA (by rw [hA]; simp; omega)
        have hcB := conv1 wr (128 + (bl.length : Int)) cB (by rw [hB]; simp; omega)
        have HA : Hid (cA = UInt8.ofNat (0 + bl.length)) := hA
        have HBB : Hid (cB = UInt8.ofNat (128 + bl.length)) := hB
        clear hA hB
        have hcv : ∀ X : Int, (convert 45 9 (.slice (some ⟨g, 0, none⟩) bl.length cap)).run Tryd.prog (wr.alloc (.cells #[.int .u8 X] 5)) = .ok (.string (M.bs bl)) (wr.alloc (.cells #[.int .u8 X] 5)) := fun X =>
          run_convert_bytes_back (P := Tryd.prog) _ 45 9 5 ⟨g, 0, none⟩ cap bl Tryd.underlying45 Tryd.underlying5 Tryd.underlying9 (fun j hj => by
            have e : (⟨g, 0, none⟩ : Addr).add j = ⟨g, j, none⟩ := by unfold Addr.add; split <;> simp_all
            have hb1 : Below wr.heap.size wr (wr.alloc (.cells #[.int .u8 X] 5)) := (Below.refl _ _).alloc (Nat.le_refl _) _
            rw [e, hb1.cell (p := ⟨g, j, none⟩) hg]; exact HCL.out j _ (List.getElem?_eq_getElem hj))
        have hap1 : M.bs [cA] ++ M.bs bl = M.bs (cA :: bl) := bs_append _ _
        have hap2 : M.bs [cB] ++ M.bs bl = M.bs (cB :: bl) := bs_append _ _
        have hsA : (M.bs [cA]).size = 1 := M.bs_size [cA]
        have hsB : (M.bs [cB]).size = 1 := M.bs_size [cB]
        have hsC := M.bs_size bl
        clear ebl hlb h8 hlt hqm
        go_wp2_with fail
        go_ret
        refine ⟨?_, HBE.out.alloc hsz _⟩
        rw [← HO.out]
        unfold M.numB
        rw [HMA.out, HMK.out, HEB.out, ← HLB.out]
        first | rw [← HA.out] | rw [← HBB.out]
        rfl

theorem refNum_any (n : Int) (w : World) (h1 : -9223372036854775808 ≤ n) (h2 : n < 9223372036854775808) :
    Calls Tryd.prog 21 #[.int .i64 n] w fun e w' => e = .returned (.string (M.bs (M.numB n))) ∧ Below w.heap.size w w' := by
  have hm := M.mag_lt n h1 h2
  by_cases hn : n < 0
  · have e1 : M.mark n = 128 := by simp [M.mark, hn]
    have e2 : M.mag n = (-1 - n).toNat := by simp [M.mag, hn]
    exact refNum_at n (M.mag n) 128 128 w hm (Or.inr ⟨by omega, rfl, rfl⟩) rfl e1
  · have e1 : M.mark n = 0 := by simp [M.mark, hn]
    have e2 : M.mag n = n.toNat := by simp [M.mag, hn]
    exact refNum_at n (M.mag n) 0 0 w hm (Or.inl ⟨by omega, rfl, rfl⟩) rfl e1

set_option maxHeartbeats 400000 in
theorem refText_any (t : List UInt8) (w : World) (h : t.length ≤ 140737488355328) :
    Calls Tryd.prog 48 #[.string (M.bs t)] w fun e w' => e = .returned (.string (M.bs (M.textB t))) ∧ Below w.heap.size w w' := by
  have hsz := M.bs_size t
  have happ := bs_append (M.numB t.length) t
  go_enter Tryd.func48, Tryd.ntmps48
  go_wp2_with (go_at_call 21; refine (refNum_any _ _ (by omega) (by omega)).mono ?_)
  rintro e w1 ⟨rfl, hb1⟩
  have hsz2 := M.bs_size (M.numB t.length)
  have hl2 := M.numB_len t.length
  go_wp2
  go_ret
  exact ⟨rfl, hb1⟩

set_option maxHeartbeats 1000000 in
theorem refRow_any (a : Option Addr) (c : Nat) (l : List (List UInt8)) (w : World)
    (hT : ∀ i t, l[i]? = some t → ∃ b off, a = some ⟨b, off, none⟩ ∧ b < w.heap.size ∧ w.cell? ⟨b, off + i, none⟩ = some (.string (M.bs t)))
    (hlen : (M.rowB l).length ≤ 140737488355328) (hn : l.length ≤ 140737488355328) :
    Calls Tryd.prog 32 #[.slice a l.length c] w fun e w' => e = .returned (.string (M.bs (M.rowB l))) ∧ Below w.heap.size w w' := by
  have HT : Hid (∀ i t, l[i]? = some t → ∃ b off, a = some ⟨b, off, none⟩ ∧ b < w.heap.size ∧ w.cell? ⟨b, off + i, none⟩ = some (.string (M.bs t))) := hT
  clear hT
  go_enter Tryd.func32, Tryd.ntmps32
  go_wp2_with (go_at_call 21; refine (refNum_any _ _ (by omega) (by omega)).mono ?_)
  rintro e w1 ⟨rfl, hb1⟩
  have HB1 : Hid (Below w.heap.size w w1) := hb1
  clear hb1
  go_wp2_with fail
  go_loopw [3, 4] (fun u3 u4 wr => ∃ k : Nat, k ≤ l.length ∧ u4 = .int .i64 k ∧ u3 = .string (M.bs (pre l k)) ∧ Below w.heap.size w wr) (fun _ u4 _ => l.length - (intOf u4).toNat)
  case atStart => exact ⟨0, Nat.zero_le _, rfl, by rw [pre_zero], HB1.out⟩
  case round =>
    obtain ⟨k, hk, rfl, rfl, hbe⟩ := hrel
    have HBE : Hid (Below w.heap.size w wr) := hbe
    have hsz := hbe.size
    clear hbe
    by_cases hlt : k < l.length
    · obtain ⟨t, ht⟩ : ∃ t, l[k]? = some t := ⟨l[k], List.getElem?_eq_getElem hlt⟩
      obtain ⟨b, off, rfl, hb, hcell0⟩ := HT.out k t ht
      have hcell : wr.cell? ⟨b, off + k, none⟩ = some (.string (M.bs t)) := by rw [HBE.out.cell (p := ⟨b, off + k, none⟩) hb]; exact hcell0
      have hps := pre_succ l k t ht
      have hpl := pre_le l (k + 1)
      rw [hps] at hpl
      simp only [List.length_append] at hpl
      have happ : M.bs (pre l k) ++ M.bs (M.textB t) = M.bs (pre l (k + 1)) := by rw [bs_append, hps, M.textB, List.append_assoc]
      have hz1 := M.bs_size (pre l k)
      have hz2 := M.bs_size (M.textB t)
      have hz3 : (M.textB t).length = (M.numB t.length).length + t.length := by rw [M.textB, List.length_append]
      clear ht hcell0 hps
      go_wp2_with (go_at_call 48; refine (refText_any _ _ (by omega)).mono ?_)
      rintro e w2 ⟨rfl, hb2⟩
      have HB2 : Hid (Below w.heap.size w w2) := HBE.out.trans (hb2.mono hsz)
      clear hb2
      go_wp2_with fail
      exact ⟨⟨k + 1, by omega, by go_num, rfl, HB2.out⟩, by simp [intOf]; omega⟩
    · obtain rfl : k = l.length := by omega
      go_wp2_with fail
      go_ret
      exact ⟨by rw [← pre_all]; rfl, HBE.out⟩

end Go.Proofs.YtfghjadhpajmeaaDoor
