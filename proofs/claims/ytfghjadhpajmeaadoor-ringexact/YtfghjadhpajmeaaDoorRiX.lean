/- The reference's places, points and distances. -/
import Derived.Test.YtfghjadhpajmeaaDoorRiN
import Derived.Test.YtfghjadhpajmeaaDoorExa
namespace Go.Proofs.YtfghjadhpajmeaaDoor
open Go.RowKit Go.Maps Go.Sort Go.Shelf
set_option linter.unusedVariables false
set_option linter.unusedSimpArgs false
attribute [local go_sem ↓] zero27

set_option maxRecDepth 8000 in
set_option maxHeartbeats 2000000 in
theorem rPlace_x (d : List UInt8) (hd : d.length = 32) (W : World) : Calls Tryd.prog 11 #[.agg (dg d)] W fun e w' => e = .returned (.int .u64 (RI.place d : Nat)) ∧ Below W.heap.size W w' := by
  have hA : Hid (∀ k, k < 32 → (dg d)[k]? = some (vb (S.by8 d k))) := fun k hk => dg_at d k (by omega)
  have hsA : (dg d).size = 32 := by rw [dg_size, hd]
  have HR : Hid (RI.place d = RI.plc d 8) := rfl
  generalize RI.place d = r at *
  generalize dg d = A at *
  go_enter Tryd.func11, Tryd.ntmps11
  go_wp2_with fail
  go_loopw [3, 4] (fun u3 u4 wr => ∃ (k : Nat), k ≤ 8 ∧ u4 = .int .i64 k ∧ u3 = .int .u64 (RI.plc d k : Nat) ∧ Below (W.heap.size + 1) (W.alloc (.cells A 23)) wr) (fun _ u4 _ => 8 - (intOf u4).toNat)
  case atStart => exact ⟨0, by omega, rfl, rfl, Below.refl _ _⟩
  case round =>
    obtain ⟨k, hk, rfl, rfl, hBl⟩ := hrel
    have HBl : Hid (Below (W.heap.size + 1) (W.alloc (.cells A 23)) wr) := hBl
    clear hBl
    have HBw : Hid (Below W.heap.size W (W.alloc (.cells A 23))) := (Below.refl _ W).alloc (Nat.le_refl _) _
    by_cases hlt : k < 8
    · have cA : wr.cell? ⟨W.heap.size, k, none⟩ = some (vb (S.by8 d k)) := by
        rw [HBl.out.cell (p := ⟨W.heap.size, k, none⟩) (show W.heap.size < W.heap.size + 1 by omega), cell_of_row _ _ k A _ (0, 0) (heap_alloc_new _ _)]
        exact hA.out k (by omega)
      have hpl : RI.plc d k < 72057594037927936 := by
        have h1 := RI.plc_lt d k
        have h2 : 256 ^ k ≤ 256 ^ 7 := Nat.pow_le_pow_right (by omega) (by omega)
        omega
      have HS : Hid (RI.plc d (k + 1) = RI.plc d k * 256 + (S.by8 d k).toNat) := rfl
      have hx := (S.by8 d k).toNat_lt
      generalize S.by8 d k = x at *
      generalize hP : RI.plc d k = P at *
      clear hP
      go_wp2_with fail
      go_roundw
      case rel => exact ⟨k + 1, by omega, by go_num, congrArg _ (by rw [HS.out]; omega), HBl.out⟩
      case measure => simp [intOf]; omega
    · obtain rfl : k = 8 := by omega
      go_wp2_with fail
      go_ret
      exact ⟨by rw [HR.out]; rfl, HBw.out.trans (HBl.out.mono (by omega))⟩
theorem tx_new (l : List (List UInt8)) (W : World) (T : TypeId) : TX (W.alloc (.cells (l.map fun t => Value.string (M.bs t)).toArray T)) (some ⟨W.heap.size, 0, none⟩) l := fun i t hi =>
  ⟨W.heap.size, 0, rfl, by simp, by rw [cell_of_row _ _ _ _ _ _ (heap_alloc_new _ _)]; simp [hi]⟩
set_option maxRecDepth 8000 in
set_option maxHeartbeats 2000000 in
theorem rPoint_yes (node n : Int) {w W : World} (h : GB w W) (h1 : 1 ≤ node) (h2 : node ≤ 6) (h3 : 0 ≤ n) (h4 : n ≤ 7) :
    Calls Tryd.prog 9 #[.int .i64 node, .int .i64 n] W fun e w' => e = .returned (.tuple #[.int .u64 (RI.pt node n : Nat), .int .i64 0]) ∧ GB w w' := by
  have C1 : Hid (∀ (x : Int) (W : World), -9223372036854775808 ≤ x → x ≤ 9223372036854775807 → GB w W → Calls Tryd.prog 21 #[.int .i64 x] W fun e w' => e = .returned (.string (M.bs (M.numB x))) ∧ GB w w') := fun x W h1 h2 h => by
    refine (refNum_any x W h1 (by omega)).mono ?_
    rintro e w' ⟨rfl, hb⟩
    exact ⟨rfl, h.step hb⟩
  have C2 : Hid (∀ W : World, GB w W → Calls Tryd.prog 20 #[.slice (some ⟨W.heap.size, 0, none⟩) 3 3] (W.alloc (.cells #[.string (M.bs RI.word), .string (M.bs (M.numB node)), .string (M.bs (M.numB n))] 9)) fun e w' => e = .returned (.agg (dg (S.sha (M.rowB [RI.word, M.numB node, M.numB n])))) ∧ GB w w') := fun W h => by
    have hl1 := M.numB_len node
    have hl2 := M.numB_len n
    have hr := rowB_le [RI.word, M.numB node, M.numB n] 22 (by simp [RI.word]; omega)
    refine (rRow_at [RI.word, M.numB node, M.numB n] (some ⟨W.heap.size, 0, none⟩) 3 _ (tx_new _ W _) (by simp at hr; omega) (by simp)).mono ?_
    rintro e w' ⟨rfl, hb⟩
    exact ⟨rfl, (h.alloc _).step hb⟩
  have C3 : Hid (∀ W : World, GB w W → Calls Tryd.prog 11 #[.agg (dg (S.sha (M.rowB [RI.word, M.numB node, M.numB n])))] W fun e w' => e = .returned (.int .u64 (RI.pt node n : Nat)) ∧ GB w w') := fun W h => by
    refine (rPlace_x _ (S.sha_length _) W).mono ?_
    rintro e w' ⟨rfl, hb⟩
    exact ⟨rfl, h.step hb⟩
  generalize RI.pt node n = P at *
  generalize dg (S.sha (M.rowB [RI.word, M.numB node, M.numB n])) = D at *
  have HG : GB w W := h
  have b1 : -9223372036854775808 ≤ node := by omega
  have b2 : node ≤ 9223372036854775807 := by omega
  have b3 : -9223372036854775808 ≤ n := by omega
  have b4 : n ≤ 9223372036854775807 := by omega
  have n1 : ¬ node < 1 := by omega
  have n2 : ¬ 6 < node := by omega
  have n3 : ¬ n < 0 := by omega
  have n4 : ¬ 7 < n := by omega
  clear h
  have hword : (⟨#[114, 105, 110, 103]⟩ : ByteArray) = M.bs RI.word := rfl
  generalize M.bs RI.word = T0 at *
  go_enter Tryd.func9, Tryd.ntmps9
  go_wp2_with (first
    | go_skip
    | (go_at_call 21; refine (C1.out _ _ (by assumption) (by assumption) HG).mono ?_; clear HG; rintro e w' ⟨rfl, HG⟩)
    | (go_at_call 20; refine (C2.out _ HG).mono ?_; clear HG; rintro e w' ⟨rfl, HG⟩)
    | (go_at_call 11; refine (C3.out _ HG).mono ?_; clear HG; rintro e w' ⟨rfl, HG⟩))
  go_ret2
  exact ⟨rfl, HG⟩
set_option maxRecDepth 8000 in
set_option maxHeartbeats 2000000 in
theorem rPoint_no (node n : Int) (W : World) (h : ¬ (1 ≤ node ∧ node ≤ 6 ∧ 0 ≤ n ∧ n ≤ 7)) :
    Calls Tryd.prog 9 #[.int .i64 node, .int .i64 n] W fun e w' => e = .returned (.tuple #[.int .u64 0, .int .i64 1]) ∧ w' = W := by
  by_cases n1 : node < 1
  · clear h
    go_enter Tryd.func9, Tryd.ntmps9
    go_wp2_with go_skip
    go_ret2
    exact ⟨rfl, rfl⟩
  · by_cases n2 : 6 < node
    · clear h
      go_enter Tryd.func9, Tryd.ntmps9
      go_wp2_with go_skip
      go_ret2
      exact ⟨rfl, rfl⟩
    · by_cases n3 : n < 0
      · clear h
        go_enter Tryd.func9, Tryd.ntmps9
        go_wp2_with go_skip
        go_ret2
        exact ⟨rfl, rfl⟩
      · have n4 : 7 < n := by omega
        clear h
        go_enter Tryd.func9, Tryd.ntmps9
        go_wp2_with go_skip
        go_ret2
        exact ⟨rfl, rfl⟩
set_option maxRecDepth 8000 in
set_option maxHeartbeats 4000000 in
theorem rNear_x (d : List UInt8) (hd : d.length = 32) (x : Int) {w W : World} (h : GB w W) (h1 : 1 ≤ x) (h2 : x ≤ 6) :
    Calls Tryd.prog 27 #[.agg (dg d), .int .i64 x] W fun e w' => e = .returned (.int .u64 (RI.near (RI.place d) x)) ∧ GB w w' := by
  obtain ⟨LD, hLD⟩ : ∃ LD : List Value, LD = d.map vb := ⟨_, rfl⟩
  have hdl : dg d = LD.toArray := by rw [hLD]; rfl
  have hLs : LD.length = 32 := by rw [hLD, List.length_map, hd]
  have hLi : (Tryd.prog.info? 23).map (·.size) = some LD.length := by rw [hLs]; exact info27
  have CP : Hid (∀ V U, GB V U → Calls Tryd.prog 11 #[.agg LD.toArray] U fun e w' => e = .returned (.int .u64 (RI.place d : Nat)) ∧ GB V w') := fun V U h => by
    rw [← hdl]
    exact (rPlace_x d hd U).mono fun e w' ⟨h1, h2⟩ => ⟨h1, h.step h2⟩
  have CQ : Hid (∀ (k : Nat) V U, k < 8 → GB V U → Calls Tryd.prog 9 #[.int .i64 x, .int .i64 k] U fun e w' => e = .returned (.tuple #[.int .u64 (RI.pt x k : Nat), .int .i64 0]) ∧ GB V w') := fun k V U h3 h => rPoint_yes x k h h1 h2 (by omega) (by omega)
  rw [hdl]
  have hB0 : GB w (W.alloc (.cells LD.toArray 23)) := h.alloc _
  have KP : Hid (∀ U, GB (W.alloc (.cells LD.toArray 23)) U → U.rangeAt W.heap.size 0 LD) := fun U hU j v hv => by
    rw [Nat.zero_add, hU.b.cell (p := ⟨W.heap.size, j, none⟩) (by simp), Lib.cell_of_heap (heap_alloc_new _ _), List.getElem?_toArray]; exact hv
  generalize hw0 : W.alloc (.cells LD.toArray 23) = w0 at *
  have HB0 : Hid (GB w w0) := hB0
  have HG0 := GB.refl hB0.g
  have HN : Hid (mn (RI.place d : Nat) x 8 = RI.near (RI.place d : Nat) x) := mn8 _ _
  generalize RI.near (RI.place d) x = R at *
  generalize ((RI.place d : Nat) : Int) = p at *
  clear hLD hdl hd h hB0
  go_enter Tryd.func27, Tryd.ntmps27
  go_wp2_with fail
  go_loopw [5, 6, 7, 8] (fun u5 u6 _ _ wr => ∃ (k : Nat), k ≤ 8 ∧ u6 = .int .i64 k ∧ u5 = .int .u64 (mn p x k) ∧ GB w0 wr) (fun _ u6 _ _ _ => 8 - (intOf u6).toNat)
  case atStart => exact ⟨0, by omega, rfl, rfl, HG0⟩
  case round =>
    clear HG0
    obtain ⟨k, hk, rfl, rfl, HB⟩ := hrel
    by_cases hk8 : k < 8
    · have CX : Hid (∀ U, GB w0 U → Calls Tryd.prog 9 #[.int .i64 x, .int .i64 k] U fun e w' => e = .returned (.tuple #[.int .u64 (RI.pt x k : Nat), .int .i64 0]) ∧ GB w0 w') := fun U h => CQ.out k w0 U hk8 h
      have HSX : Hid (mn p x (k + 1) = min (mn p x k) ((((RI.pt x k : Nat) : Int) - p) % 18446744073709551616)) := rfl
      generalize mn p x k = A at *
      generalize RI.pt x k = PX at *
      clear CQ
      have ew : IntKind.u64.wrap (((PX : Nat) : Int) - p) = (((PX : Nat) : Int) - p) % 18446744073709551616 := by simp only [IntKind.wrap, IntKind.bits, IntKind.signed]; simp
      rw [← ew] at HSX
      clear ew
      by_cases hlt : IntKind.u64.wrap (((PX : Nat) : Int) - p) < A
      · have HE : Hid (mn p x (k + 1) = IntKind.u64.wrap (((PX : Nat) : Int) - p)) := by show _ = _; rw [HSX.out]; omega
        clear HSX
        go_wp2_with (first
          | go_skip
          | (refine wl_midG (by rfl) 23 _ rfl W.heap.size 0 rfl LD _ (KP.out _ HB) und27 rfl hLi ?_)
          | (go_at_call 9; refine (CX.out _ HB).mono ?_; clear CX HB; rintro e w6 ⟨rfl, HB⟩)
          | (go_at_call 11; refine (CP.out _ _ HB).mono ?_; clear HB; rintro e w7 ⟨rfl, HB⟩))
        go_roundw
        case rel => exact ⟨k + 1, by omega, by go_num, congrArg _ HE.out.symm, HB⟩
        case measure => simp [intOf] <;> omega
      · have HE : Hid (mn p x (k + 1) = A) := by show _ = _; rw [HSX.out]; omega
        clear HSX
        go_wp2_with (first
          | go_skip
          | (refine wl_midG (by rfl) 23 _ rfl W.heap.size 0 rfl LD _ (KP.out _ HB) und27 rfl hLi ?_)
          | (go_at_call 9; refine (CX.out _ HB).mono ?_; clear CX HB; rintro e w6 ⟨rfl, HB⟩)
          | (go_at_call 11; refine (CP.out _ _ HB).mono ?_; clear HB; rintro e w7 ⟨rfl, HB⟩))
        go_roundw
        case rel => exact ⟨k + 1, by omega, by go_num, congrArg _ HE.out.symm, HB⟩
        case measure => simp [intOf] <;> omega
    · obtain rfl : k = 8 := by omega
      rw [HN.out]
      go_wp2_with fail
      go_ret
      exact ⟨rfl, HB0.out.step HB.b⟩
end Go.Proofs.YtfghjadhpajmeaaDoor
