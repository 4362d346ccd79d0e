/- Places and points. -/
import Derived.Test.YtfghjadhpajmeaaDoorRiB
import Derived.Test.YtfghjadhpajmeaaDoorRiMath
namespace Go.Proofs.YtfghjadhpajmeaaDoor
open Go.RowKit
set_option linter.unusedVariables false
set_option linter.unusedSimpArgs false
attribute [local go_sem ↓] zero27

set_option maxRecDepth 8000 in
set_option maxHeartbeats 2000000 in
theorem Place_x (d : List UInt8) (hd : d.length = 32) (W : World) : Calls Tryd.prog 10 #[.agg (dg d)] W fun e w' => e = .returned (.int .u64 (RI.place d : Nat)) ∧ Below W.heap.size W w' := by
  have hA : Hid (∀ k, k < 32 → (dg d)[k]? = some (vb (S.by8 d k))) := fun k hk => dg_at d k (by omega)
  have hsA : (dg d).size = 32 := by rw [dg_size, hd]
  have HR : Hid (RI.place d = RI.plc d 8) := rfl
  generalize RI.place d = r at *
  generalize dg d = A at *
  go_enter Tryd.func10, Tryd.ntmps10
  go_wp2_with fail
  go_loopw [3, 5, 8] (fun u3 u5 u8 wr => ∃ (k : Nat), k ≤ 8 ∧ u8 = .int .i64 k ∧ u3 = .int .u64 (RI.plc d k : Nat) ∧ Below (W.heap.size + 1) (W.alloc (.cells A 23)) wr) (fun _ _ u8 _ => 8 - (intOf u8).toNat)
  case atStart => exact ⟨0, by omega, rfl, rfl, Below.refl _ _⟩
  case round =>
    obtain ⟨k, hk, rfl, rfl, hBl⟩ := hrel
    have HBl : Hid (Below (W.heap.size + 1) (W.alloc (.cells A 23)) wr) := hBl
    clear hBl
    have HBw : Hid (Below W.heap.size W (W.alloc (.cells A 23))) := (Below.refl _ W).alloc (Nat.le_refl _) _
    by_cases hlt : k < 8
    · have cA : wr.cell? ⟨W.heap.size, k, none⟩ = some (vb (S.by8 d k)) := by
        rw [HBl.out.cell (p := ⟨W.heap.size, k, none⟩) (show W.heap.size < W.heap.size + 1 by omega), cell_of_row _ _ k A _ (0, 0) (heap_alloc_new _ _)]
        exact hA.out k (by omega)
      have hpl : RI.plc d k < 72057594037927936 := by
        have h1 := RI.plc_lt d k
        have h2 : 256 ^ k ≤ 256 ^ 7 := Nat.pow_le_pow_right (by omega) (by omega)
        omega
      have HS : Hid (RI.plc d (k + 1) = RI.plc d k * 256 + (S.by8 d k).toNat) := rfl
      have ho1 := or8 (RI.plc d k) (S.by8 d k) hpl
      have ho2 := or8' (RI.plc d k) (S.by8 d k) hpl
      have hx := (S.by8 d k).toNat_lt
      generalize S.by8 d k = x at *
      have ho3 : bits BinOp.or IntKind.u64 (((RI.plc d k : Nat) : Int) * 256) (x.toNat : Int) = ((RI.plc d (k + 1) : Nat) : Int) := by
        have e : IntKind.u64.wrap (x.toNat : Int) = (x.toNat : Int) := by simp only [IntKind.wrap, IntKind.bits, IntKind.signed]; simp; omega
        rw [e] at ho2
        rw [ho2, HS.out]
      have HO : Hid (bits BinOp.or IntKind.u64 (((RI.plc d k : Nat) : Int) * 256) (x.toNat : Int) = ((RI.plc d (k + 1) : Nat) : Int)) := ho3
      clear ho1 ho2 ho3
      go_wp2_with fail
      go_roundw
      case rel => exact ⟨k + 1, by omega, by go_num, congrArg _ HO.out, HBl.out⟩
      case measure => simp [intOf]; omega
    · obtain rfl : k = 8 := by omega
      go_wp2_with fail
      go_ret
      exact ⟨by rw [HR.out]; rfl, HBw.out.trans (HBl.out.mono (by omega))⟩
theorem isNode_x (n : Int) (W : World) : Calls Tryd.prog 18 #[.int .i64 n] W fun e w' => e = .returned (.bool (decide (1 ≤ n) && decide (n ≤ 6))) ∧ w' = W := by
  by_cases h1 : 1 ≤ n
  · by_cases h2 : n ≤ 6
    · have e : (decide (1 ≤ n) && decide (n ≤ 6)) = true := by simp [h1, h2]
      rw [e]
      go_enter Tryd.func18, Tryd.ntmps18
      go_wp2_with fail
      go_ret
      exact ⟨rfl, rfl⟩
    · have e : (decide (1 ≤ n) && decide (n ≤ 6)) = false := by simp [h1, h2]
      rw [e]
      go_enter Tryd.func18, Tryd.ntmps18
      go_wp2_with fail
      go_ret
      exact ⟨rfl, rfl⟩
  · have e : (decide (1 ≤ n) && decide (n ≤ 6)) = false := by simp [h1]
    rw [e]
    go_enter Tryd.func18, Tryd.ntmps18
    go_wp2_with fail
    go_ret
    exact ⟨rfl, rfl⟩
theorem distance_x (p q : Int) (W : World) : Calls Tryd.prog 34 #[.int .u64 p, .int .u64 q] W fun e w' => e = .returned (.int .u64 (RI.dist p q)) ∧ w' = W := by
  unfold RI.dist
  go_enter Tryd.func34, Tryd.ntmps34
  go_wp2_with fail
  go_ret
  exact ⟨rfl, rfl⟩
/-- texts that lie in a block made for them -/
theorem strs_new (l : List (List UInt8)) (W : World) (T : TypeId) (h : l ≠ []) : Strs (W.heap.size + 1) (W.alloc (.cells (l.map fun t => Value.string (M.bs t)).toArray T)) (.slice (some ⟨W.heap.size, 0, none⟩) l.length l.length) l :=
  Or.inr ⟨W.heap.size, 0, l.length, rfl, by omega, fun i u hu => by
    rw [cell_of_row _ _ _ _ _ _ (heap_alloc_new _ _)]
    simp [hu]⟩
set_option maxRecDepth 8000 in
set_option maxHeartbeats 2000000 in
theorem point_x (node n : Int) {w W : World} (h : GB w W) (h1 : -9223372036854775808 ≤ node) (h2 : node ≤ 9223372036854775807) (h3 : -9223372036854775808 ≤ n) (h4 : n ≤ 9223372036854775807) :
    Calls Tryd.prog 19 #[.int .i64 node, .int .i64 n] W fun e w' => e = .returned (.int .u64 (RI.pt node n : Nat)) ∧ GB w w' := by
  have C1 : Hid (∀ (x : Int) (W : World), -9223372036854775808 ≤ x → x ≤ 9223372036854775807 → GB w W → Calls Tryd.prog 30 #[.int .i64 x] W fun e w' => e = .returned (.string (M.bs (M.numB x))) ∧ GB w w') := fun x W h1 h2 h => by
    refine (num_any x W h1 (by omega)).mono ?_
    rintro e w' ⟨rfl, hb⟩
    exact ⟨rfl, h.step hb⟩
  have HW : Hid (∀ W : World, (W.alloc (.cells #[.string (M.bs RI.word), .string (M.bs (M.numB node)), .string (M.bs (M.numB n))] 9)).heap.size = W.heap.size + 1) := fun W => by simp
  have C2 : Hid (∀ W : World, GB w W → Calls Tryd.prog 17 #[.slice (some ⟨W.heap.size, 0, none⟩) 3 3] (W.alloc (.cells #[.string (M.bs RI.word), .string (M.bs (M.numB node)), .string (M.bs (M.numB n))] 9)) fun e w' => e = .returned (.agg (dg (S.sha (M.rowB [RI.word, M.numB node, M.numB n])))) ∧ GB w w') := fun W h => by
    have hs := strs_new [RI.word, M.numB node, M.numB n] W 9 (by simp)
    have hl1 := M.numB_len node
    have hl2 := M.numB_len n
    have hr := rowB_le [RI.word, M.numB node, M.numB n] 22 (by simp [RI.word]; omega)
    refine (Row_at [RI.word, M.numB node, M.numB n] _ _ (h.alloc _).g (by rw [HW.out]; exact hs) (by simp at hr; omega) (by simp)).mono ?_
    rintro e w' ⟨rfl, hb⟩
    exact ⟨rfl, (h.alloc _).step hb⟩
  have C3 : Hid (∀ W : World, GB w W → Calls Tryd.prog 10 #[.agg (dg (S.sha (M.rowB [RI.word, M.numB node, M.numB n])))] W fun e w' => e = .returned (.int .u64 (RI.pt node n : Nat)) ∧ GB w w') := fun W h => by
    refine (Place_x _ (S.sha_length _) W).mono ?_
    rintro e w' ⟨rfl, hb⟩
    exact ⟨rfl, h.step hb⟩
  have hw : RI.word = [114, 105, 110, 103] := rfl
  generalize RI.pt node n = P at *
  generalize dg (S.sha (M.rowB [RI.word, M.numB node, M.numB n])) = D at *
  have HG : GB w W := h
  clear h HW hw
  have hword : (⟨#[114, 105, 110, 103]⟩ : ByteArray) = M.bs RI.word := rfl
  generalize M.bs RI.word = T0 at *
  go_enter Tryd.func19, Tryd.ntmps19
  go_wp2_with (first
    | go_skip
    | (go_at_call 30; refine (C1.out _ _ (by assumption) (by assumption) HG).mono ?_; clear HG; rintro e w' ⟨rfl, HG⟩)
    | (go_at_call 17; refine (C2.out _ HG).mono ?_; clear HG; rintro e w' ⟨rfl, HG⟩)
    | (go_at_call 10; refine (C3.out _ HG).mono ?_; clear HG; rintro e w' ⟨rfl, HG⟩))
  go_ret
  exact ⟨rfl, HG⟩
set_option maxRecDepth 8000 in
set_option maxHeartbeats 2000000 in
theorem Point_yes (node n : Int) {w W : World} (h : GB w W) (h1 : 1 ≤ node) (h2 : node ≤ 6) (h3 : 0 ≤ n) (h4 : n ≤ 7) :
    Calls Tryd.prog 8 #[.int .i64 node, .int .i64 n] W fun e w' => e = .returned (.tuple #[.int .u64 (RI.pt node n : Nat), .int .i64 0]) ∧ GB w w' := by
  have C1 := hidI (fun W => isNode_x node W)
  have e : (decide (1 ≤ node) && decide (node ≤ 6)) = true := by simp [h1, h2]
  rw [e] at C1
  have C2 : Hid (∀ W, GB w W → Calls Tryd.prog 19 #[.int .i64 node, .int .i64 n] W fun e w' => e = .returned (.int .u64 (RI.pt node n : Nat)) ∧ GB w w') := fun W h => point_x node n h (by omega) (by omega) (by omega) (by omega)
  have HG := h
  clear h e
  have h5 : ¬ n < 0 := by omega
  have h6 : ¬ n ≥ 8 := by omega
  generalize RI.pt node n = P at *
  go_enter Tryd.func8, Tryd.ntmps8
  go_wp2_with (first
    | go_skip
    | (go_at_call 18; refine (C1.out _).mono ?_; rintro e w' ⟨rfl, hw⟩; rw [hw]; clear hw w')
    | (go_at_call 19; refine (C2.out _ HG).mono ?_; clear HG; rintro e w' ⟨rfl, HG⟩))
  go_ret2
  exact ⟨rfl, HG⟩
set_option maxRecDepth 8000 in
set_option maxHeartbeats 2000000 in
theorem Point_no (node n : Int) (W : World) (h : ¬ (1 ≤ node ∧ node ≤ 6 ∧ 0 ≤ n ∧ n ≤ 7)) :
    Calls Tryd.prog 8 #[.int .i64 node, .int .i64 n] W fun e w' => e = .returned (.tuple #[.int .u64 0, .int .i64 1]) ∧ w' = W := by
  have C1 := hidI (fun W => isNode_x node W)
  by_cases hq : 1 ≤ node ∧ node ≤ 6
  · have e : (decide (1 ≤ node) && decide (node ≤ 6)) = true := by simp [hq.1, hq.2]
    rw [e] at C1
    by_cases h5 : n < 0
    · clear h hq e
      go_enter Tryd.func8, Tryd.ntmps8
      go_wp2_with (first
        | go_skip
        | (go_at_call 18; refine (C1.out _).mono ?_; rintro e w' ⟨rfl, hw⟩; rw [hw]; clear hw w'))
      go_ret2
      exact ⟨rfl, rfl⟩
    · have h6 : n ≥ 8 := by omega
      clear h hq e
      go_enter Tryd.func8, Tryd.ntmps8
      go_wp2_with (first
        | go_skip
        | (go_at_call 18; refine (C1.out _).mono ?_; rintro e w' ⟨rfl, hw⟩; rw [hw]; clear hw w'))
      go_ret2
      exact ⟨rfl, rfl⟩
  · have e : (decide (1 ≤ node) && decide (node ≤ 6)) = false := by simp; omega
    rw [e] at C1
    clear h hq e
    go_enter Tryd.func8, Tryd.ntmps8
    go_wp2_with (first
      | go_skip
      | (go_at_call 18; refine (C1.out _).mono ?_; rintro e w' ⟨rfl, hw⟩; rw [hw]; clear hw w'))
    go_ret2
    exact ⟨rfl, rfl⟩
set_option maxRecDepth 8000 in
set_option maxHeartbeats 2000000 in
theorem nearest_x (p node : Int) {w W : World} (h : GB w W) (h1 : 1 ≤ node) (h2 : node ≤ 6) :
    Calls Tryd.prog 23 #[.int .u64 p, .int .i64 node] W fun e w' => e = .returned (.int .u64 (RI.near p node)) ∧ GB w w' := by
  have C1 := hidI (fun (q : Int) (W : World) => distance_x p q W)
  have C2 : Hid (∀ (n : Nat) W, n ≤ 7 → GB w W → Calls Tryd.prog 19 #[.int .i64 node, .int .i64 n] W fun e w' => e = .returned (.int .u64 (RI.pt node n : Nat)) ∧ GB w w') := fun n W hn h => point_x node n h (by omega) (by omega) (by omega) (by omega)
  have C20 : Hid (∀ W, GB w W → Calls Tryd.prog 19 #[.int .i64 node, .int .i64 0] W fun e w' => e = .returned (.int .u64 (RI.pt node 0 : Nat)) ∧ GB w w') := fun W h => point_x node 0 h (by omega) (by omega) (by omega) (by omega)
  have HR : Hid (RI.near p node = RI.nearN p node 7) := rfl
  have H0 : Hid (RI.nearN p node 0 = RI.dist p (RI.pt node 0)) := rfl
  generalize RI.near p node = r at *
  have HG := h
  clear h
  go_enter Tryd.func23, Tryd.ntmps23
  go_wp2_with (first
    | go_skip
    | (go_at_call 34; refine (C1.out _ _).mono ?_; rintro e w' ⟨rfl, hw⟩; rw [hw]; clear hw w')
    | (go_at_call 19; refine (C20.out _ HG).mono ?_; clear HG; rintro e w' ⟨rfl, HG⟩))
  go_loopw [5, 6] (fun u5 u6 wr => ∃ (k : Nat), 1 ≤ k ∧ k ≤ 8 ∧ u6 = .int .i64 k ∧ u5 = .int .u64 (RI.nearN p node (k - 1)) ∧ GB w wr) (fun _ u6 _ => 8 - (intOf u6).toNat)
  case atStart => exact ⟨1, by omega, by omega, rfl, by rw [show (1 : Nat) - 1 = 0 from rfl, H0.out], HG⟩
  case round =>
    clear HG
    obtain ⟨k, hk1, hk, rfl, rfl, HG⟩ := hrel
    by_cases hlt : k < 8
    · have C3 : Hid (∀ W, GB w W → Calls Tryd.prog 19 #[.int .i64 node, .int .i64 k] W fun e w' => e = .returned (.int .u64 (RI.pt node k : Nat)) ∧ GB w w') := fun W h => C2.out k W (by omega) h
      obtain ⟨m, rfl⟩ : ∃ m, k = m + 1 := ⟨k - 1, by omega⟩
      have HS : Hid (RI.nearN p node (m + 1) = min (RI.nearN p node m) (RI.dist p (RI.pt node ((m : Int) + 1)))) := rfl
      rw [Nat.add_sub_cancel]
      clear C2 C20 H0
      go_wp2_with (first
        | go_skip
        | (go_at_call 19; refine (C3.out _ HG).mono ?_; clear HG; rintro e w' ⟨rfl, HG⟩)
        | (go_at_call 34; refine (C1.out _ _).mono ?_; rintro e w' ⟨rfl, hw⟩; rw [hw]; clear hw w'))
      go_roundw
      case rel => exact ⟨m + 2, by omega, by omega, by go_num, congrArg _ HS.out.symm, HG⟩
      case measure => simp [intOf]; omega
    · obtain rfl : k = 8 := by omega
      go_wp2_with fail
      go_ret
      exact ⟨by rw [HR.out]; rfl, HG⟩
end Go.Proofs.YtfghjadhpajmeaaDoor
