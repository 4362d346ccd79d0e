/- What (*Press).end does: the state is that of the text with all that follows it. -/
import Derived.Test.YtfbjakhanjbaeaaDoorS7
namespace Go.Proofs.YtfbjakhanjbaeaaDoor
open Go.RowKit
set_option linter.unusedVariables false

theorem clear_any (W : World) (ty : TypeId) (b o n c : Nat) (ht : W.there b o n) :
    ∃ W', (Builtin.clear_ #[64] ty #[.slice (some ⟨b, o, none⟩) n c]).run Tryd.prog W = .ok (.tuple #[]) W' ∧ W' = W.setCells b o (List.replicate n (Value.int .u8 0)) := by
  rcases Nat.eq_zero_or_pos n with rfl | hn
  · refine ⟨W, ?_, rfl⟩
    simp [Builtin.clear_, run_underlying und40, go_sem]
  · exact ⟨_, Lib.run_clear_slice W _ _ ty _ und40 Tryd.zeroValue5 rfl rfl b o n c hn (fun j hj => (ht j hj).1) (fun j hj => (ht j hj).2), rfl⟩
theorem clear_run (W : World) (ty : TypeId) (b o n c : Nat) (ht : W.there b o n) :
    (Builtin.clear_ #[64] ty #[.slice (some ⟨b, o, none⟩) n c]).run Tryd.prog W = .ok (.tuple #[]) (W.setCells b o (List.replicate n (Value.int .u8 0))) := by
  obtain ⟨W', h, rfl⟩ := clear_any W ty b o n c ht
  exact h

def zs64 : List Value := List.replicate 64 (Value.int .u8 0)
theorem len_u64 (n : Nat) (h : n ≤ 576460752303423488) (k : Nat) : ((8 * n / 256 ^ k : Nat) : Int) % 256 = ((UInt8.ofNat (8 * n / 256 ^ k)).toNat : Int) := by
  rw [UInt8.toNat_ofNat']; simp

set_option maxRecDepth 4000 in
set_option maxHeartbeats 4000000 in
theorem fin (b : Nat) (m : List UInt8) (w : World) (hP : Hid (PrN b m m.length w)) (hK : Hid (KW w)) (hb : 2 ≤ b) (hbw : b < w.heap.size) (hlen : m.length ≤ 576460752303423488) :
    Calls Tryd.prog 59 #[.pointer (some ⟨b, 0, none⟩)] w fun e w' => e = .returned (.tuple #[]) ∧
      (∃ D, w'.heap[b]? = some (.cells D 95 (0, 0)) ∧ D.size = 74 ∧ AtSt D (S.stN (S.pad m) ((S.pad m).length / 64))) ∧ Off b w w' := by
  obtain ⟨C, rest, hC, hPC, hrest, hr64⟩ := hP.out
  obtain ⟨h, hh⟩ : ∃ h, h = m.length % 64 := ⟨_, rfl⟩
  rw [← hh] at hPC hrest
  have HH : Hid (h = m.length % 64) := hh
  have hh64 : h < 64 := by omega
  clear hh
  have k72 : w.cell? ⟨b, 72, none⟩ = some (.int .i64 (h : Int)) := by rw [cell_of_row _ _ 72 C _ _ hC]; exact hPC.held
  have k8h : w.cell? ⟨b, 8 + h, none⟩ = some (vb (S.by8 rest h)) := by rw [cell_of_row _ _ _ C _ _ hC]; exact hPC.rest h hh64
  have f8h : w.frozen? ⟨b, 8 + h, none⟩ = false := by simp [World.frozen?, hC]
  have HC : Hid (w.heap[b]? = some (.cells C 95 (0, 0))) := hC
  clear hC
  have i0 : (0 : Int) ≤ (h : Int) := by omega
  have j0 : (h : Int) < 64 := by omega
  have e0 : ((h : Int)).toNat = h := by omega
  go_enter Tryd.func59, Tryd.ntmps59
  go_wp2_with fail
  go_region
  have hP1 := hPC.setRest (R' := splice rest [128] h 1) hh64 128 (fun j hj => by
    rw [by8_splice _ _ _ _ _ hr64 (by simp) (by omega)]
    by_cases hj : j = h
    · subst hj; rw [if_pos (by omega), if_pos rfl]; simp [S.by8]
    · rw [if_neg (by omega), if_neg hj])
  have hD1 : ((w.setCell ⟨b, 8 + h, none⟩ (.int .u8 128)).drew).heap[b]? = some (.cells (C.setIfInBounds (8 + h) (vb 128)) 95 (0, 0)) := heap_setCell_row HC.out
  have hO1 : Off b w (w.setCell ⟨b, 8 + h, none⟩ (.int .u8 128)).drew := ((Off.refl _ _).setCell _ _).drew
  generalize (w.setCell ⟨b, 8 + h, none⟩ (.int .u8 128)).drew = W1 at *
  generalize C.setIfInBounds (8 + h) (vb 128) = C1 at *
  clear k72 k8h f8h HC hPC hP
  have k72 : W1.cell? ⟨b, 72, none⟩ = some (.int .i64 (h : Int)) := by rw [cell_of_row _ _ 72 C1 _ _ hD1]; exact hP1.held
  have th1 : W1.there b (8 + (h + 1)) (64 - (h + 1)) := fun j hj => ⟨by rw [cell_of_row _ _ _ C1 _ _ hD1, Array.getElem?_eq_getElem (by rw [hP1.size]; omega)]; rfl, by simp [World.frozen?, hD1]⟩
  have hcl : ∀ ty, (Builtin.clear_ #[64] ty #[.slice (some (if h = 63 then ⟨b, 8, none⟩ else ⟨b, 8 + (h + 1), none⟩)) (63 - h) (63 - h)]).run Tryd.prog W1.drew = .ok (.tuple #[]) (W1.drew.setCells b (8 + (h + 1)) (List.replicate (63 - h) (Value.int .u8 0))) := fun ty => by
    by_cases h63 : h = 63
    · subst h63
      exact clear_run W1.drew ty b 8 0 0 (fun j hj => by omega)
    · rw [if_neg h63]
      exact clear_run W1.drew ty b _ _ _ (fun j hj => th1 j (by omega))
  have HD1 : Hid (W1.heap[b]? = some (.cells C1 95 (0, 0))) := hD1
  clear hD1 th1
  have e1 : ((h : Int) + 1).toNat = h + 1 := by omega
  have j1 : (h : Int) + 1 ≤ 64 := by omega
  have i1 : (0 : Int) ≤ (h : Int) + 1 := by omega
  go_wp2_with fail
  go_region
  generalize (Value.slice (some (if h = 63 then (⟨b, 8, none⟩ : Addr) else ⟨b, 8 + (h + 1), none⟩)) (63 - h) (63 - h)) = v20
  obtain ⟨C2, d1, d2, d3, d4, d5⟩ := setCells_row b 95 (0, 0) (List.replicate (63 - h) (Value.int .u8 0)) (8 + (h + 1)) W1.drew C1 HD1.out
  rw [List.length_replicate] at d3 d4
  have hP2 : PC C2 (S.stN m (m.length / 64)) (mark rest h) h m.length := hP1.cleared (h := h + 1) (by omega) d2 (fun j hj => d3 j (by omega)) (fun j hj => by
      rw [d4 j (by omega) (by rw [hP1.size]; omega), List.getElem?_replicate, if_pos (by omega)]; rfl) (fun j hj => by
      rw [by8_mark _ _ _ hj, by8_splice _ _ _ _ _ hr64 (by simp) (by omega)]
      by_cases h1 : j < h
      · rw [if_pos h1, if_pos (by omega), if_neg (by omega)]
      · rw [if_neg h1]
        by_cases h2 : j = h
        · subst h2; rw [if_pos rfl, if_pos (by omega), if_pos (by omega)]; simp [S.by8]
        · rw [if_neg h2, if_neg (by omega)])
  have hO2 : Off b w (W1.drew.setCells b (8 + (h + 1)) (List.replicate (63 - h) (Value.int .u8 0))) := hO1.drew.trans d5
  clear d5
  generalize W1.drew.setCells b (8 + (h + 1)) (List.replicate (63 - h) (Value.int .u8 0)) = W2 at *
  clear d2 d3 d4 hcl k72 HD1 hO1 hP1 e1 j1 i1
  have k72 : W2.cell? ⟨b, 72, none⟩ = some (.int .i64 (h : Int)) := by rw [cell_of_row _ _ 72 C2 _ _ d1]; exact hP2.held
  have HD2 : Hid (W2.heap[b]? = some (.cells C2 95 (0, 0))) := d1
  have HP2 : Hid (PC C2 (S.stN m (m.length / 64)) (mark rest h) h m.length) := hP2
  have HO2 : Hid (Off b w W2) := hO2
  have hml := mark_length rest h
  have hrng := hP2.range hml d1
  clear d1 hP2 hO2
  obtain ⟨R1, hR1⟩ : ∃ R1, R1 = mark rest h := ⟨_, rfl⟩
  rw [← hR1] at hrng hml HP2
  have HR1 : Hid (R1 = mark rest h) := hR1
  clear hR1
  have hi51 := info51
  have HA1 : Hid (∀ k, k < 64 → (R1.map vb).toArray[k]? = some (vb (S.by8 R1 k))) := arr_by8 _ hml
  by_cases hge : 56 ≤ h
  case' pos =>
    have hq : (56 : Int) ≤ (h : Int) := by omega
    have hu := und51
    have hi : (Tryd.prog.info? 93).map (·.size) = some (R1.map vb).length := by rw [info51, List.length_map, hml]
    have CM : Hid (∀ W, W.heap = W2.heap → Calls Tryd.prog 66 #[.pointer (some ⟨b, 0, none⟩), .agg (R1.map vb).toArray] W fun e w' => e = .returned (.tuple #[]) ∧
        (∃ D4, w'.heap[b]? = some (.cells D4 95 (0, 0)) ∧ D4.size = C2.size ∧ AtSt D4 (S.mix (S.stN m (m.length / 64)) R1) ∧ ∀ i, 8 ≤ i → D4[i]? = C2[i]?) ∧ Off b W w') := fun W hW =>
      mix _ _ _ (by simp [hml]) HA1 b _ C2 W (by show _ = _; rw [hW]; exact HD2.out) HP2.out.st (fun t ht => by rw [World.cell?_of_block (w := W2) (by rw [hW])]; exact (hK.out.off HO2.out (by omega) (by omega)) t ht) hb (by rw [HP2.out.size]; decide)
    go_wp2_with fail
    go_region_held3 (fun w' => w'.rangeAt b 8 (R1.map vb)) (first | exact (HP2.out.setSt q2 q3 q4).range hml q1 | go_keep_ranges)
      ((go_at_call 66; refine (CM.out _ (by rfl)).mono ?_; rintro e w4 ⟨rfl, ⟨D4, q1, q2, q3, q4⟩, q5⟩))
    have hP4 := HP2.out.setSt q2 q3 q4
    have th4 : w4.there b 8 64 := fun j hj => ⟨by rw [cell_of_row _ _ _ D4 _ _ q1, Array.getElem?_eq_getElem (by rw [hP4.size]; omega)]; rfl, by simp [World.frozen?, q1]⟩
    have hcl : ∀ ty, (Builtin.clear_ #[64] ty #[.slice (some ⟨b, 8, none⟩) 64 64]).run Tryd.prog w4 = .ok (.tuple #[]) (w4.setCells b 8 zs64) := fun ty => clear_run w4 ty b _ _ _ th4
    obtain ⟨C3, d1, d2, d3, d4, d5⟩ := setCells_row b 95 (0, 0) zs64 8 w4 D4 q1
    have hzl : zs64.length = 64 := List.length_replicate
    rw [hzl] at d3 d4
    have hP3 : PC C3 (S.mix (S.stN m (m.length / 64)) R1) zeroB h m.length := hP4.cleared (h := 0) (by omega) d2 (fun j hj => d3 j (by omega)) (fun j hj => by
      rw [d4 j (by omega) (by rw [hP4.size]; omega)]; unfold zs64; rw [List.getElem?_replicate, if_pos (by omega)]; rfl) (fun j hj => by rw [by8_zeroB _ hj, if_neg (by omega)])
    have HO3 : Hid (Off b w (w4.setCells b 8 zs64)) := HO2.out.trans ((Off.trans ((Off.refl _ _).drew) q5).trans d5)
    have HF : Hid (S.mix (S.mix (S.stN m (m.length / 64)) R1) (lastk zeroB (8 * m.length) 8) = S.stN (S.pad m) ((S.pad m).length / 64)) := by
      show _ = _; rw [HR1.out, HH.out]; exact last_two m rest (by rw [← HH.out]; exact hrest) (by rw [← HH.out]; exact hge)
    clear q1 q2 q3 q4 q5 hP4 th4 hu hi CM hq d2 d3 d4 d5
    have k73 : (w4.setCells b 8 zs64).cell? ⟨b, 73, none⟩ = some (.int .i64 (m.length : Int)) := by rw [cell_of_row _ _ 73 C3 _ _ d1]; exact hP3.all
    have HP3 : Hid (PC C3 (S.mix (S.stN m (m.length / 64)) R1) zeroB h m.length) := hP3
    have HD3 : Hid ((w4.setCells b 8 zs64).heap[b]? = some (.cells C3 95 (0, 0))) := d1
    clear d1 hP3
    go_wp2_with fail
    clear hrng hml HR1 HP2 HD2 HO2 HA1 k72 k73
    generalize w4.setCells b 8 zs64 = W3 at *
    generalize S.mix (S.stN m (m.length / 64)) R1 = s3 at *
    generalize zeroB = R3 at *
  case' neg =>
    have hq : ¬ (56 : Int) ≤ (h : Int) := by omega
    have HP3 := HP2
    have HD3 := HD2
    have HO3 := HO2
    have k73 : W2.cell? ⟨b, 73, none⟩ = some (.int .i64 (m.length : Int)) := by rw [cell_of_row _ _ 73 C2 _ _ HD2.out]; exact HP2.out.all
    have HF : Hid (S.mix (S.stN m (m.length / 64)) (lastk R1 (8 * m.length) 8) = S.stN (S.pad m) ((S.pad m).length / 64)) := by
      show _ = _; rw [HR1.out, HH.out]; exact last_one m rest (by rw [← HH.out]; exact hrest) (by rw [← HH.out]; omega)
    go_wp2_with fail
    clear hrng hml HR1 HP2 HD2 HO2 HA1 k72 k73
    generalize W2 = W3 at *
    generalize C2 = C3 at *
    generalize S.stN m (m.length / 64) = s3 at *
    generalize R1 = R3 at *
  all_goals
    go_loopw [2, 3] (fun u2 u3 wr => ∃ (k : Nat) (D : Array Value), k ≤ 8 ∧ u3 = .int .i64 (63 - (k : Int)) ∧ u2 = .int .u64 ((8 * m.length / 256 ^ k : Nat) : Int) ∧ wr.heap[b]? = some (.cells D 95 (0, 0)) ∧ PC D s3 (lastk R3 (8 * m.length) k) h m.length ∧ Off b w wr) (fun _ u3 _ => (intOf u3).toNat)
    case atStart =>
      refine ⟨0, C3, by omega, rfl, by simp; omega, HD3.out, HP3.out.alike (fun j hj => ?_), HO3.out⟩
      rw [by8_lastk _ _ _ _ hj, if_neg (by omega)]
    case round =>
      obtain ⟨k, D, hk, rfl, rfl, hD, hPD, hO⟩ := hrel
      have HD : Hid (wr.heap[b]? = some (.cells D 95 (0, 0))) := hD
      have HPD : Hid (PC D s3 (lastk R3 (8 * m.length) k) h m.length) := hPD
      have HO : Hid (Off b w wr) := hO
      clear hPD hO HD3 HP3 HO3
      by_cases hlt : k < 8
      · have k8 : wr.cell? ⟨b, 8 + (63 - k), none⟩ = some (vb (S.by8 (lastk R3 (8 * m.length) k) (63 - k))) := by rw [cell_of_row _ _ _ D _ _ HD.out]; exact HPD.out.rest _ (by omega)
        have f8 : wr.frozen? ⟨b, 8 + (63 - k), none⟩ = false := by simp [World.frozen?, hD]
        clear hD
        have c1 : (56 : Int) ≤ 63 - (k : Int) := by omega
        have c2 : (0 : Int) ≤ 63 - (k : Int) := by omega
        have c3 : 63 - (k : Int) < 64 := by omega
        have c4 : (63 - (k : Int)).toNat = 63 - k := by omega
        have HBY : Hid (((8 * m.length / 256 ^ k : Nat) : Int) % 256 = ((UInt8.ofNat (8 * m.length / 256 ^ k)).toNat : Int)) := len_u64 m.length hlen k
        have hdv : ((8 * m.length / 256 ^ k : Nat) : Int) / 256 = ((8 * m.length / 256 ^ (k + 1) : Nat) : Int) := by
          rw [Nat.pow_succ, ← Nat.div_div_eq_div_mul]; rfl
        have HDV : Hid (((8 * m.length / 256 ^ k : Nat) : Int) / 256 = ((8 * m.length / 256 ^ (k + 1) : Nat) : Int)) := hdv
        have hle : 8 * m.length / 256 ^ k ≤ 8 * m.length := Nat.div_le_self _ _
        have HX : Hid (8 * m.length / 256 ^ k = 8 * m.length / 256 ^ k) := rfl
        clear hdv
        generalize hX : 8 * m.length / 256 ^ k = X at *
        have HXX : Hid (8 * m.length / 256 ^ k = X) := hX
        have hX1 : X ≤ 4611686018427387904 := by omega
        clear hX HX hle
        go_wp2_with fail
        go_roundw
        case rel =>
          have hp := HPD.out.setRest (R' := lastk R3 (8 * m.length) (k + 1)) (i := 63 - k) (by omega) (UInt8.ofNat X) (fun j hj => by
            rw [by8_lastk _ _ _ _ hj, by8_lastk _ _ _ _ hj]
            by_cases hjk : j = 63 - k
            · rw [if_pos hjk, if_pos (by omega), hjk, show 63 - (63 - k) = k by omega, HXX.out]
            · rw [if_neg hjk]
              by_cases hjl : 64 - k ≤ j
              · rw [if_pos hjl, if_pos (by omega)]
              · rw [if_neg hjl, if_neg (by omega)])
          rw [HBY.out, HDV.out]
          exact ⟨k + 1, _, by omega, by congr 1; omega, rfl, heap_setCell_row HD.out, hp, HO.out.setCell _ _⟩
        case measure => simp [intOf]; omega
      · have h8 : k = 8 := by omega
        rw [h8] at HPD
        have c1 : decide ((56 : Int) ≤ 63 - (k : Int)) = false := by simp; omega
        have hlk := lastk_length R3 (8 * m.length) 8
        have hP3 := HPD.out
        have hrng := hP3.range hlk hD
        obtain ⟨R4, hR4⟩ : ∃ R4, R4 = lastk R3 (8 * m.length) 8 := ⟨_, rfl⟩
        rw [← hR4] at hlk hrng hP3 HF
        clear HPD hR4 hD
        have HA1 : Hid (∀ k, k < 64 → (R4.map vb).toArray[k]? = some (vb (S.by8 R4 k))) := arr_by8 _ hlk
        have hu := und51
        have hi : (Tryd.prog.info? 93).map (·.size) = some (R4.map vb).length := by rw [info51, List.length_map, hlk]
        have CM : Hid (∀ W, W.heap = wr.heap → Calls Tryd.prog 66 #[.pointer (some ⟨b, 0, none⟩), .agg (R4.map vb).toArray] W fun e w' => e = .returned (.tuple #[]) ∧
            (∃ D4, w'.heap[b]? = some (.cells D4 95 (0, 0)) ∧ D4.size = D.size ∧ AtSt D4 (S.mix s3 R4) ∧ ∀ i, 8 ≤ i → D4[i]? = D[i]?) ∧ Off b W w') := fun W hW =>
          mix _ _ _ (by simp [hlk]) HA1 b _ D W (by show _ = _; rw [hW]; exact HD.out) hP3.st (fun t ht => by rw [World.cell?_of_block (w := wr) (by rw [hW])]; exact (hK.out.off HO.out (by omega) (by omega)) t ht) hb (by rw [hP3.size]; decide)
        have HP3 : Hid (PC D s3 R4 h m.length) := hP3
        clear hP3 h8 HA1
        go_wp2_with fail
        go_region_held3 (fun w' => w'.rangeAt b 8 (R4.map vb)) (first | exact (HP3.out.setSt q2 q3 q4).range hlk q1 | go_keep_ranges)
          ((go_at_call 66; refine (CM.out _ (by rfl)).mono ?_; rintro e w4 ⟨rfl, ⟨D4, q1, q2, q3, q4⟩, q5⟩))
        go_wp2_with fail
        refine bodyPost_end (results_none rfl _ _ _) rfl ?_
        exact ⟨rfl, ⟨D4, q1, by rw [q2]; exact HP3.out.size, by rw [← HF.out]; exact q3⟩, HO.out.trans (Off.trans ((Off.refl _ _).drew) q5)⟩
end Go.Proofs.YtfbjakhanjbaeaaDoor
