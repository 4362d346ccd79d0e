/- What a press does with a text that comes: (*Press).take. -/
import Derived.Test.YtfbjakhanjbaeaaDoorS4
import Derived.Laws.IdiomStrings
import Derived.Lib.Strings
namespace Go.Proofs.YtfbjakhanjbaeaaDoor
open Go.RowKit
set_option linter.unusedVariables false

/-- block b is a press behind the bytes m; its size says n -/
def PrN (b : Nat) (m : List UInt8) (n : Nat) (w : World) : Prop :=
  ∃ C rest, w.heap[b]? = some (.cells C 95 (0, 0)) ∧ PC C (S.stN m (m.length / 64)) rest (m.length % 64) n ∧ rest.take (m.length % 64) = m.drop (64 * (m.length / 64)) ∧ rest.length = 64
def strLen : Value → Nat
  | .string s => s.size
  | _ => 0

def splice (rest r : List UInt8) (h n : Nat) : List UInt8 := rest.take h ++ r.take n ++ rest.drop (h + n)
theorem splice_length (rest r : List UInt8) (h n : Nat) (hr : rest.length = 64) (hn : n ≤ r.length) (hh : h + n ≤ 64) : (splice rest r h n).length = 64 := by
  simp [splice, hr]; omega
theorem by8_splice (rest r : List UInt8) (h n i : Nat) (hr : rest.length = 64) (hn : n ≤ r.length) (hh : h + n ≤ 64) :
    S.by8 (splice rest r h n) i = if h ≤ i ∧ i < h + n then S.by8 r (i - h) else S.by8 rest i := by
  have l1 : (rest.take h).length = h := by simp; omega
  have l2 : (r.take n).length = n := by simp; omega
  unfold S.by8 splice
  simp only [List.getD_eq_getElem?_getD]
  by_cases h1 : i < h
  · rw [if_neg (by omega), List.append_assoc, List.getElem?_append_left (by omega), List.getElem?_take, if_pos h1]
  · by_cases h2 : i < h + n
    · rw [if_pos (by omega), List.getElem?_append_left (by rw [List.length_append]; omega), List.getElem?_append_right (by omega), l1, List.getElem?_take, if_pos (by omega)]
    · rw [if_neg (by omega), List.getElem?_append_right (by rw [List.length_append]; omega), List.length_append, l1, l2, List.getElem?_drop, show h + n + (i - (h + n)) = i by omega]

theorem PC.splice {C D : Array Value} {s : S.St} {rest r : List UInt8} {h h0 n N : Nat} (p : PC C s rest h0 N) (hr : rest.length = 64) (hn : n ≤ r.length) (hh : h + n ≤ 64)
    (hD : D.size = C.size) (ho : ∀ j, (j < 8 + h ∨ 8 + h + n ≤ j) → D[j]? = C[j]?) (hi : ∀ j, j < n → D[8 + h + j]? = some (vb (S.by8 r j))) : PC D s (splice rest r h n) h0 N := by
  refine ⟨by rw [hD, p.size], fun i hi' => by rw [ho i (by omega)]; exact p.st i hi', fun i hi' => ?_, by rw [ho 72 (by omega)]; exact p.held, by rw [ho 73 (by omega)]; exact p.all⟩
  rw [by8_splice _ _ _ _ _ hr hn hh]
  by_cases hc : h ≤ i ∧ i < h + n
  · rw [if_pos hc, show 8 + i = 8 + h + (i - h) by omega]; exact hi (i - h) (by omega)
  · rw [if_neg hc, ho (8 + i) (by omega)]; exact p.rest i hi'
theorem PC.setHeld {C : Array Value} {s : S.St} {rest : List UInt8} {h N : Nat} (p : PC C s rest h N) (h' : Nat) : PC (C.setIfInBounds 72 (.int .i64 (h' : Int))) s rest h' N := by
  have hs := p.size
  exact ⟨by simp [hs], fun i hi => by rw [Array.getElem?_setIfInBounds_ne (by omega)]; exact p.st i hi, fun i hi => by rw [Array.getElem?_setIfInBounds_ne (by omega)]; exact p.rest i hi,
    by rw [Array.getElem?_setIfInBounds_self_of_lt (by omega)], by rw [Array.getElem?_setIfInBounds_ne (by omega)]; exact p.all⟩
theorem PC.setAll {C : Array Value} {s : S.St} {rest : List UInt8} {h N : Nat} (p : PC C s rest h N) (N' : Nat) : PC (C.setIfInBounds 73 (.int .i64 (N' : Int))) s rest h N' := by
  have hs := p.size
  exact ⟨by simp [hs], fun i hi => by rw [Array.getElem?_setIfInBounds_ne (by omega)]; exact p.st i hi, fun i hi => by rw [Array.getElem?_setIfInBounds_ne (by omega)]; exact p.rest i hi,
    by rw [Array.getElem?_setIfInBounds_ne (by omega)]; exact p.held, by rw [Array.getElem?_setIfInBounds_self_of_lt (by omega)]⟩
theorem PC.setSt {C D : Array Value} {s s' : S.St} {rest : List UInt8} {h N : Nat} (p : PC C s rest h N) (hD : D.size = C.size) (hs : AtSt D s') (ho : ∀ i, 8 ≤ i → D[i]? = C[i]?) : PC D s' rest h N :=
  ⟨by rw [hD, p.size], hs, fun i hi => by rw [ho _ (by omega)]; exact p.rest i hi, by rw [ho _ (by omega)]; exact p.held, by rw [ho _ (by omega)]; exact p.all⟩

theorem feed_short (m r rest : List UInt8) (n : Nat) (hn : n ≤ r.length) (hr : rest.length = 64) (ht : rest.take (m.length % 64) = m.drop (64 * (m.length / 64))) (hh : m.length % 64 + n < 64) :
    (m ++ r.take n).length / 64 = m.length / 64 ∧ (m ++ r.take n).length % 64 = m.length % 64 + n ∧ S.stN (m ++ r.take n) (m.length / 64) = S.stN m (m.length / 64) ∧
    (splice rest r (m.length % 64) n).take (m.length % 64 + n) = (m ++ r.take n).drop (64 * (m.length / 64)) := by
  have hl : (m ++ r.take n).length = m.length + n := by simp; omega
  refine ⟨by rw [hl]; omega, by rw [hl]; omega, S.stN_append _ _ _ (by omega), ?_⟩
  have l1 : (rest.take (m.length % 64) ++ r.take n).length = m.length % 64 + n := by simp; omega
  unfold splice
  rw [List.take_append_of_le_length (by omega), List.take_of_length_le (by omega), ht, List.drop_append_of_le_length (by omega)]
theorem feed_full (m r rest : List UInt8) (n : Nat) (hn : n ≤ r.length) (hr : rest.length = 64) (ht : rest.take (m.length % 64) = m.drop (64 * (m.length / 64))) (hh : m.length % 64 + n = 64) :
    (m ++ r.take n).length / 64 = m.length / 64 + 1 ∧ (m ++ r.take n).length % 64 = 0 ∧ S.stN (m ++ r.take n) (m.length / 64 + 1) = S.mix (S.stN m (m.length / 64)) (splice rest r (m.length % 64) n) ∧
    (m ++ r.take n).drop (64 * (m.length / 64 + 1)) = [] := by
  have hl : (m ++ r.take n).length = m.length + n := by simp; omega
  refine ⟨by rw [hl]; omega, by rw [hl]; omega, ?_, List.drop_of_length_le (by rw [hl]; omega)⟩
  have l1 : (m.drop (64 * (m.length / 64)) ++ r.take n).length = 64 := by simp; omega
  simp only [S.stN]
  rw [S.stN_append _ _ _ (by omega), List.drop_append_of_le_length (by omega), List.take_of_length_le (by omega)]
  unfold splice
  have e : rest.drop 64 = [] := List.drop_of_length_le (by omega)
  rw [hh, e, List.append_nil, ht]

theorem bs_ne (r : List UInt8) (h : 0 < r.length) : (M.bs r).toList.isEmpty = false := by
  rw [Lib.toList_data, M.bs_toList]
  cases r with
  | nil => simp at h
  | cons a r => rfl
theorem bs_nil : (M.bs []).toList.isEmpty = true := by rw [Lib.toList_data, M.bs_toList]; rfl
theorem drop_bs (r : List UInt8) (n : Nat) : (M.bs r).extract n (M.bs r).size = M.bs (r.drop n) := by
  rw [Lib.extract_eq]
  simp [M.bs, ByteArray.size]
  exact List.take_of_length_le (by simp)
theorem arr_by8 (rest : List UInt8) (h : rest.length = 64) (k : Nat) (hk : k < 64) : (rest.map vb).toArray[k]? = some (vb (S.by8 rest k)) := by
  rw [List.getElem?_toArray, List.getElem?_map, List.getElem?_eq_getElem (by omega)]
  simp [S.by8, h, hk]
theorem PC.range {C : Array Value} {s : S.St} {rest : List UInt8} {h N b : Nat} {T : TypeId} {w : World} (p : PC C s rest h N) (hr : rest.length = 64) (hC : w.heap[b]? = some (.cells C T (0, 0))) : w.rangeAt b 8 (rest.map vb) := fun j v hv => by
  have hj : j < 64 := by have := (List.getElem?_eq_some_iff.1 hv).1; simpa [hr] using this
  rw [cell_of_row _ _ _ C _ _ hC, p.rest j hj, ← hv, ← List.getElem?_toArray, arr_by8 rest hr j hj]

set_option maxRecDepth 4000 in
set_option maxHeartbeats 4000000 in
theorem take (b : Nat) (m t : List UInt8) (w : World) (hP : Hid (PrN b m m.length w)) (hK : Hid (KW w)) (hb : 2 ≤ b) (hbw : b < w.heap.size) (hlen : m.length + t.length ≤ 4611686018427387904) :
    Calls Tryd.prog 58 #[.pointer (some ⟨b, 0, none⟩), .string (M.bs t)] w fun e w' => e = .returned (.tuple #[]) ∧ PrN b (m ++ t) (m.length + t.length) w' ∧ Off b w w' := by
  obtain ⟨C, rest, hC, hPC, hrest, hr64⟩ := hP.out
  have k73 : w.cell? ⟨b, 73, none⟩ = some (.int .i64 (m.length : Int)) := by rw [cell_of_row _ _ 73 C _ _ hC]; exact hPC.all
  have f73 : w.frozen? ⟨b, 73, none⟩ = false := by simp [World.frozen?, hC]
  have hbs := M.bs_size t
  have HC : Hid (w.heap[b]? = some (.cells C 95 (0, 0))) := hC
  clear hC
  go_enter Tryd.func58, Tryd.ntmps58
  go_wp2_with fail
  have HS : Hid (PrN b m (m.length + t.length) (w.setCell ⟨b, 73, none⟩ (.int .i64 ((m.length : Int) + (t.length : Int))))) := by
    refine ⟨_, rest, heap_setCell_row HC.out, ?_, hrest, hr64⟩
    have := hPC.setAll (m.length + t.length)
    rwa [show ((m.length + t.length : Nat) : Int) = (m.length : Int) + (t.length : Int) by omega] at this
  have HO : Hid (Off b w (w.setCell ⟨b, 73, none⟩ (.int .i64 ((m.length : Int) + (t.length : Int))))) := (Off.refl _ _).setCell _ _
  clear hPC hrest hr64 k73 f73 hbs HC hP
  go_loopw [1, 4] (fun u1 u4 wr => ∃ k : Nat, k ≤ t.length ∧ u1 = .string (M.bs (t.drop k)) ∧ PrN b (m ++ t.take k) (m.length + t.length) wr ∧ Off b w wr) (fun u1 _ _ => strLen u1)
  case atStart => exact ⟨0, Nat.zero_le _, rfl, by simpa using HS.out, HO.out⟩
  case round =>
    obtain ⟨k, hk, rfl, hPr, hO⟩ := hrel
    clear HS HO
    have HP : Hid (PrN b (m ++ t.take k) (m.length + t.length) wr) := hPr
    have HO : Hid (Off b w wr) := hO
    clear hPr hO
    by_cases hlt : k < t.length
    · obtain ⟨r, hr⟩ : ∃ r, r = t.drop k := ⟨_, rfl⟩
      have hrl : r.length = t.length - k := by rw [hr]; simp
      rw [← hr]
      have HR : Hid (r = t.drop k) := hr
      clear hr
      have hbs := M.bs_size r
      have hr0 : 0 < r.length := by omega
      have hr1 : r.length ≤ 4611686018427387904 := by omega
      have HRL : Hid (r.length = t.length - k) := hrl
      clear hrl
      have hne : (M.bs r).toList.isEmpty = false := bs_ne r hr0
      have hk0 := HO.out.size
      obtain ⟨C, rest, hC, hPC, hrest, hr64⟩ := HP.out
      have hml : (m ++ t.take k).length = m.length + k := by simp; omega
      obtain ⟨m', hm'⟩ : ∃ m', m' = m ++ t.take k := ⟨_, rfl⟩
      rw [← hm'] at hPC hrest hml
      have HM : Hid (m' = m ++ t.take k) := hm'
      clear hm' HP
      obtain ⟨h, hh⟩ : ∃ h, h = m'.length % 64 := ⟨_, rfl⟩
      rw [← hh] at hPC hrest
      have HH : Hid (h = m'.length % 64) := hh
      have hh64 : h < 64 := by omega
      obtain ⟨n, hn⟩ : ∃ n, n = Nat.min r.length (64 - h) := ⟨_, rfl⟩
      have HN : Hid (Nat.min r.length (64 - h) = n) := hn.symm
      have hn1 : n ≤ r.length := by rw [hn]; exact Nat.min_le_left _ _
      have hn2 : h + n ≤ 64 := by have : n ≤ 64 - h := by { rw [hn]; exact Nat.min_le_right _ _ }; omega
      have hn3 : 0 < n := by have : 0 < Nat.min r.length (64 - h) := Nat.lt_min.2 ⟨by omega, by omega⟩; omega
      have k72 : wr.cell? ⟨b, 72, none⟩ = some (.int .i64 (h : Int)) := by rw [cell_of_row _ _ 72 C _ _ hC]; exact hPC.held
      have f72 : wr.frozen? ⟨b, 72, none⟩ = false := by simp [World.frozen?, hC]
      have hth : wr.there b (8 + h) n := fun j hj => ⟨by rw [cell_of_row _ _ _ C _ _ hC, Array.getElem?_eq_getElem (by rw [hPC.size]; omega)]; rfl, by simp [World.frozen?, hC]⟩
      have hcp : ∀ ty, (Builtin.copy_ #[64, 9] ty #[.slice (some ⟨b, 8 + h, none⟩) (64 - h) (64 - h), .string (M.bs r)]).run Tryd.prog wr.drew = .ok (.int .i64 n) (wr.drew.setCells b (8 + h) ((r.map vb).take n)) :=
        fun ty => by rw [← List.map_take]; exact copy_str wr.drew ty b (8 + h) (64 - h) (64 - h) n r HN.out hth
      have HC : Hid (wr.heap[b]? = some (.cells C 95 (0, 0))) := hC
      clear hh hn hC hth
      have i0 : (0 : Int) ≤ (h : Int) := by omega
      have j0 : (h : Int) ≤ 64 := by omega
      have e0 : ((h : Int)).toNat = h := by omega
      go_wp2_with fail
      go_region
      obtain ⟨D, d1, d2, d3, d4, d5⟩ := setCells_row b 95 (0, 0) ((r.take n).map vb) (8 + h) wr.drew C HC.out
      have hln : ((r.take n).map vb).length = n := by simp; omega
      rw [hln] at d3 d4
      have hPD : PC D (S.stN m' (m'.length / 64)) (splice rest r h n) h (m.length + t.length) := hPC.splice hr64 hn1 hn2 d2 (fun j hj => d3 j (by omega)) (fun j hj => by
        rw [d4 j hj (by rw [hPC.size]; omega), List.getElem?_map, List.getElem?_take, if_pos hj, List.getElem?_eq_getElem (by omega)]
        simp [S.by8, List.getD_eq_getElem?_getD, show j < r.length by omega])
      have hOD : Off b wr (wr.drew.setCells b (8 + h) ((r.take n).map vb)) := (Off.refl b wr).drew.trans d5
      rw [List.map_take] at hOD d1
      clear d5
      generalize wr.drew.setCells b (8 + h) ((r.map vb).take n) = W2 at *
      have HO2 : Hid (Off b w W2) := HO.out.trans hOD
      clear hOD d3 d4 hcp k72 f72 HC hPC hln
      have k72 : W2.cell? ⟨b, 72, none⟩ = some (.int .i64 (h : Int)) := by rw [cell_of_row _ _ 72 D _ _ d1]; exact hPD.held
      have f72 : W2.frozen? ⟨b, 72, none⟩ = false := by simp [World.frozen?, d1]
      have HD : Hid (W2.heap[b]? = some (.cells D 95 (0, 0))) := d1
      clear d1 d2
      have hex := drop_bs r n
      rw [hbs] at hex
      have hnI : (n : Int).toNat = n := by omega
      by_cases hful : h + n = 64
      · have hq : ((h : Int) + (n : Int) == 64) = true := by simp; omega
        go_wp2_with fail
        have hP3 := hPD.setHeld (h + n)
        have hD3 : (W2.setCell ⟨b, 72, none⟩ (.int .i64 ((h : Int) + (n : Int)))).heap[b]? = some (.cells (D.setIfInBounds 72 (.int .i64 ((h + n : Nat) : Int))) 95 (0, 0)) := by
          rw [show ((h : Int) + (n : Int)) = ((h + n : Nat) : Int) by omega]; exact heap_setCell_row HD.out
        have hO3 : Off b w (W2.setCell ⟨b, 72, none⟩ (.int .i64 ((h : Int) + (n : Int)))) := HO2.out.setCell _ _
        generalize W2.setCell ⟨b, 72, none⟩ (.int .i64 ((h : Int) + (n : Int))) = W3 at *
        generalize D.setIfInBounds 72 (.int .i64 ((h + n : Nat) : Int)) = D3 at *
        have hsl := splice_length rest r h n hr64 hn1 hn2
        have hrng := hP3.range hsl hD3
        have hu := und51
        have hi : (Tryd.prog.info? 93).map (·.size) = some ((splice rest r h n).map vb).length := by rw [info51, List.length_map, hsl]
        have HP3 : Hid (PC D3 (S.stN m' (m'.length / 64)) (splice rest r h n) (h + n) (m.length + t.length)) := hP3
        have HD3 : Hid (W3.heap[b]? = some (.cells D3 95 (0, 0))) := hD3
        have HO3 : Hid (Off b w W3) := hO3
        have HA : Hid (∀ k, k < 64 → ((splice rest r h n).map vb).toArray[k]? = some (vb (S.by8 (splice rest r h n) k))) := arr_by8 _ hsl
        have HK3 : Hid (KW W3) := hK.out.off hO3 (by omega) (by omega)
        have hz3 : ((splice rest r h n).map vb).toArray.size = 64 := by simp [hsl]
        have h83 : 8 ≤ D3.size := by rw [hP3.size]; decide
        have HST : Hid (AtSt D3 (S.stN m' (m'.length / 64))) := hP3.st
        have CM : Hid (∀ W, W.heap = W3.heap → Calls Tryd.prog 66 #[.pointer (some ⟨b, 0, none⟩), .agg ((splice rest r h n).map vb).toArray] W fun e w' => e = .returned (.tuple #[]) ∧
            (∃ D4, w'.heap[b]? = some (.cells D4 95 (0, 0)) ∧ D4.size = D3.size ∧ AtSt D4 (S.mix (S.stN m' (m'.length / 64)) (splice rest r h n)) ∧ ∀ i, 8 ≤ i → D4[i]? = D3[i]?) ∧ Off b W w') := fun W hW =>
          mix _ _ _ hz3 HA b _ D3 W (by show _ = _; rw [hW]; exact HD3.out) HST (fun t ht => by rw [World.cell?_of_block (w := W3) (by rw [hW])]; exact HK3.out t ht) hb h83
        clear hP3 hD3 hO3 HD hPD k72 f72 HO2 hex hz3 h83 HA HST HK3
        obtain ⟨R, hRR⟩ : ∃ R, R = splice rest r h n := ⟨_, rfl⟩
        rw [← hRR] at hsl hrng hi HP3 CM
        have HRR : Hid (splice rest r h n = R) := hRR.symm
        clear hRR
        go_region_held3 (fun w' => w'.rangeAt b 8 (R.map vb)) (first | exact (HP3.out.setSt q2 q3 q4).range hsl q1 | go_keep_ranges)
          ((go_at_call 66; refine (CM.out _ (by rfl)).mono ?_; rintro e w4 ⟨rfl, ⟨D4, q1, q2, q3, q4⟩, q5⟩))
        have hP4 := HP3.out.setSt q2 q3 q4
        have k72 : w4.cell? ⟨b, 72, none⟩ = some (.int .i64 ((h + n : Nat) : Int)) := by rw [cell_of_row _ _ 72 D4 _ _ q1]; exact hP4.held
        have f72 : w4.frozen? ⟨b, 72, none⟩ = false := by simp [World.frozen?, q1]
        have HQ1 : Hid (w4.heap[b]? = some (.cells D4 95 (0, 0))) := q1
        have HP4 := hP4.setHeld 0
        have HP5 : Hid (PC (D4.setIfInBounds 72 (.int .i64 ((0 : Nat) : Int))) (S.mix (S.stN m' (m'.length / 64)) R) R 0 (m.length + t.length)) := HP4
        have HO4 : Hid (Off b w w4) := HO3.out.trans (Off.trans ((Off.refl _ _).drew) q5)
        clear q1 q2 q3 q4 q5 hP4 HP4 hrng hu hi
        go_wp2_with fail
        go_roundw
        case rel =>
          refine ⟨k + n, by have := HRL.out; omega, by rw [HR.out, List.drop_drop], ?_, HO4.out.setCell _ _⟩
          have hmm : m ++ t.take (k + n) = m' ++ r.take n := by rw [HM.out, HR.out, List.take_add, List.append_assoc]
          rw [hmm]
          obtain ⟨g1, g2, g3, g4⟩ := feed_full m' r rest n hn1 hr64 (by rw [← HH.out]; exact hrest) (by rw [← HH.out]; exact hful)
          refine ⟨_, R, heap_setCell_row HQ1.out, ?_, ?_, hsl⟩
          · rw [g1, g2, g3, ← HH.out, HRR.out]; exact HP5.out
          · rw [g1, g2, g4]; rfl
        case measure => simp [strLen, M.bs_size]; omega
      · have hq : ((h : Int) + (n : Int) == 64) = false := by simp; omega
        go_wp2_with fail
        go_roundw
        case rel =>
          refine ⟨k + n, by have := HRL.out; omega, by rw [HR.out, List.drop_drop], ?_, HO2.out.setCell _ _⟩
          have hmm : m ++ t.take (k + n) = m' ++ r.take n := by rw [HM.out, HR.out, List.take_add, List.append_assoc]
          rw [hmm]
          obtain ⟨g1, g2, g3, g4⟩ := feed_short m' r rest n hn1 hr64 (by rw [← HH.out]; exact hrest) (by rw [← HH.out]; omega)
          rw [← HH.out] at g2 g4
          refine ⟨_, splice rest r h n, heap_setCell_row HD.out, ?_, ?_, splice_length rest r h n hr64 hn1 hn2⟩
          · rw [g1, g2, g3]
            have := hPD.setHeld (h + n)
            rwa [show ((h + n : Nat) : Int) = (h : Int) + (n : Int) by omega] at this
          · rw [g1, g2, g4]
        case measure => simp [strLen, M.bs_size]; omega
    · have hkt : k = t.length := by omega
      have hne : (M.bs (t.drop k)).toList.isEmpty = true := by rw [hkt, List.drop_length]; exact bs_nil
      have hmm : m ++ t.take k = m ++ t := by rw [hkt, List.take_length]
      rw [hmm] at HP
      clear hmm hkt
      go_wp2_with fail
      refine bodyPost_end (results_none rfl _ _ _) rfl ?_
      exact ⟨rfl, HP.out, HO.out⟩
end Go.Proofs.YtfbjakhanjbaeaaDoor
