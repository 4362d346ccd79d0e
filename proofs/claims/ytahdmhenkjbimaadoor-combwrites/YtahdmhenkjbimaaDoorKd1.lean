/- What the reference's Decode answers of bytes that are no manifest's, ahead of its loop. -/
import Derived.Test.YtahdmhenkjbimaaDoorK3
import Derived.Test.YtahdmhenkjbimaaDoorR4
namespace Go.Proofs.YtahdmhenkjbimaaDoor
open Go.RowKit
set_option linter.unusedVariables false
set_option linter.unusedSimpArgs false

theorem rd_base (Z : Array Value) (w : World) :
    ((w.alloc (.cells Z 26)).alloc (.cells Z 26)).heap[w.heap.size + 1]? = some (.cells Z 26 (0, 0)) ∧ ∀ W, Bl (((w.alloc (.cells Z 26)).alloc (.cells Z 26)).setRow (w.heap.size + 1) Z) W → W.heap[w.heap.size]? = some (.cells Z 26 (0, 0)) ∧ W.heap[w.heap.size + 1]? = some (.cells Z 26 (0, 0)) ∧ Below w.heap.size w W := by
  have HM0 : ((w.alloc (.cells Z 26)).alloc (.cells Z 26)).heap[w.heap.size + 1]? = some (.cells Z 26 (0, 0)) := alloc_at _ _ (by simp) _
  have hN0 : ((w.alloc (.cells Z 26)).alloc (.cells Z 26)).heap[w.heap.size]? = some (.cells Z 26 (0, 0)) := by rw [Below.heap_alloc _ _ _ (by simp)]; exact heap_alloc_new _ _
  have hB0 : Below w.heap.size w ((w.alloc (.cells Z 26)).alloc (.cells Z 26)) := ((Below.refl _ w).alloc (Nat.le_refl _) _).alloc (by simp) _
  have HN : (((w.alloc (.cells Z 26)).alloc (.cells Z 26)).setRow (w.heap.size + 1) Z).heap[w.heap.size]? = some (.cells Z 26 (0, 0)) := by
    rw [← hN0]; show (Array.modify _ (w.heap.size + 1) _)[w.heap.size]? = _; rw [Array.getElem?_modify, if_neg (by omega)]
  have HM : (((w.alloc (.cells Z 26)).alloc (.cells Z 26)).setRow (w.heap.size + 1) Z).heap[w.heap.size + 1]? = some (.cells Z 26 (0, 0)) := setRow_heap _ _ _ _ _ _ HM0
  have HB : Below w.heap.size w (((w.alloc (.cells Z 26)).alloc (.cells Z 26)).setRow (w.heap.size + 1) Z) := below_setRow hB0 (by omega) _
  have hlt : w.heap.size + 1 < (((w.alloc (.cells Z 26)).alloc (.cells Z 26)).setRow (w.heap.size + 1) Z).heap.size := (Array.getElem?_eq_some_iff.1 HM).1
  exact ⟨HM0, fun W hW => ⟨by rw [Below.block hW _ (by omega)]; exact HN, by rw [Below.block hW _ hlt]; exact HM, HB.trans (Below.mono hW (by omega))⟩⟩
theorem rdRow_none (l : List UInt8) (hl : l.length ≤ 140737488355328) (hR : M.readRow l 3 = none) {w0 w : World} (h : Bl w0 w) :
    Calls Tryd.prog 30 #[.string (M.bs l), .int .i64 3] w fun e w' => e = .returned (.tuple #[.slice none 0 0, .string ⟨#[]⟩, .bool false]) ∧ Bl w0 w' := by
  refine (refReadRow_any l 3 w (by omega) (Or.inl (by omega))).mono ?_
  rw [hR]
  rintro e w' ⟨rfl, hb⟩
  exact ⟨rfl, h.step hb⟩
theorem rdRow_yes (l : List UInt8) (hl : l.length ≤ 140737488355328) (ls : List (List UInt8)) (r : List UInt8) (hR : M.readRow l 3 = some (ls, r)) {w0 w : World} (h : Bl w0 w) :
    Calls Tryd.prog 30 #[.string (M.bs l), .int .i64 3] w fun e w' => ∃ a c, e = .returned (.tuple #[.slice a ls.length c, .string (M.bs r), .bool true]) ∧ Strs w'.heap.size w' (.slice a ls.length c) ls ∧ Bl w0 w' := by
  refine (refReadRow_any l 3 w (by omega) (Or.inl (by omega))).mono ?_
  rw [hR]
  rintro e w' ⟨v, rfl, hs, hb⟩
  obtain ⟨a, c, rfl⟩ := hs.shape
  exact ⟨a, c, rfl, hs, h.step hb⟩
theorem rdNum (l : List UInt8) (hl : l.length ≤ 140737488355328) {w0 w : World} (h : Bl w0 w) :
    Calls Tryd.prog 31 #[.string (M.bs l)] w fun e w' => e = .returned (rnV (M.readNum l)) ∧ Bl w0 w' := by
  refine (refReadNum_l l w (by unfold maxLen; omega)).mono ?_
  rintro e w' ⟨rfl, n, rfl⟩
  exact ⟨rfl, h.drewN n⟩
set_option maxRecDepth 8000 in
set_option maxHeartbeats 1000000 in
theorem rdec_A (s : List UInt8) (w : World) (hs : s.length ≤ 140737488355328) (hR : M.readRow s 3 = none) :
    Calls Tryd.prog 9 #[.string (M.bs s)] w fun e w' => e = .returned (.tuple #[.agg zero34, .int .i64 3]) ∧ Below w.heap.size w w' := by
  have hz := zero34_size
  have h1 : zero34.all (·.oneCell') = true := mv_one _ _ _ _ _
  obtain ⟨fs, hum⟩ := und27m
  have hzz : ∀ W, (zeroValue 26).run Tryd.prog W = .ok (.agg zero34) W := zero27m
  obtain ⟨hm0, hw0⟩ := rd_base zero34 w
  have HM0 : Hid (((w.alloc (.cells zero34 26)).alloc (.cells zero34 26)).heap[w.heap.size + 1]? = some (.cells zero34 26 (0, 0))) := hm0
  have HH : Hid (∀ W, Bl (((w.alloc (.cells zero34 26)).alloc (.cells zero34 26)).setRow (w.heap.size + 1) zero34) W → W.heap[w.heap.size]? = some (.cells zero34 26 (0, 0)) ∧ W.heap[w.heap.size + 1]? = some (.cells zero34 26 (0, 0)) ∧ Below w.heap.size w W) := hw0
  have H0 : Bl (((w.alloc (.cells zero34 26)).alloc (.cells zero34 26)).setRow (w.heap.size + 1) zero34) (((w.alloc (.cells zero34 26)).alloc (.cells zero34 26)).setRow (w.heap.size + 1) zero34) := Below.refl _ _
  clear hm0 hw0
  generalize zero34 = Z at *
  have CR : Hid (∀ W, Bl (((w.alloc (.cells Z 26)).alloc (.cells Z 26)).setRow (w.heap.size + 1) Z) W → Calls Tryd.prog 30 #[.string (M.bs s), .int .i64 3] W fun e w' => e = .returned (.tuple #[.slice none 0 0, .string ⟨#[]⟩, .bool false]) ∧ Bl (((w.alloc (.cells Z 26)).alloc (.cells Z 26)).setRow (w.heap.size + 1) Z) w') := fun W hW => rdRow_none s hs hR hW
  clear hs hR
  go_enter Tryd.func9, Tryd.ntmps9
  go_wp2_with (first
    | (go_at_call 30; refine (CR.out _ H0).mono ?_; clear CR H0; rintro e w2 ⟨rfl, HBX⟩; obtain ⟨hn9, hm9, hf9⟩ := HH.out _ HBX; have HN : Hid _ := hn9; have HM : Hid _ := hm9; have HF : Hid _ := hf9; clear hn9 hm9 hf9)
    | (refine wpList_store_row rfl 26 _ _ rfl (w.heap.size + 1) Z rfl rfl 26 Z HM0.out (by rw [hz]; exact info27m) rfl h1 ?_; clear HM0)
    | (refine wpList_load_row rfl 26 _ rfl (w.heap.size + 1) rfl 26 Z (0, 0) _ HM.out hum rfl (by rw [hz]; exact info27m) ?_; clear HM)
    | (refine wpList_store_row rfl 26 _ _ rfl w.heap.size Z rfl rfl 26 Z HN.out (by rw [hz]; exact info27m) rfl h1 ?_))
  (try simp only [Exit.inBlock, Exit.then])
  refine bodyPost_ret (results2_row rfl _ _ _ 26 Z (0, 0) _ rfl (setRow_heap _ _ _ _ _ _ HN.out) hum rfl (by rw [hz]; exact info27m)) rfl ?_
  exact ⟨rfl, below_setRow HF.out (Nat.le_refl _) _⟩
set_option maxRecDepth 8000 in
set_option maxHeartbeats 1000000 in
theorem rdec_B (s : List UInt8) (w : World) (hs : s.length ≤ 140737488355328) (l : List (List UInt8)) (r : List UInt8) (hR : M.readRow s 3 = some (l, r)) (hbad : r ≠ [] ∨ l.length ≠ 3) (hl : l.length ≤ 3) (hrl : r.length ≤ 140737488355328) :
    Calls Tryd.prog 9 #[.string (M.bs s)] w fun e w' => e = .returned (.tuple #[.agg zero34, .int .i64 3]) ∧ Below w.heap.size w w' := by
  have hz := zero34_size
  have h1 : zero34.all (·.oneCell') = true := mv_one _ _ _ _ _
  obtain ⟨fs, hum⟩ := und27m
  have hzz : ∀ W, (zeroValue 26).run Tryd.prog W = .ok (.agg zero34) W := zero27m
  obtain ⟨hm0, hw0⟩ := rd_base zero34 w
  have HM0 : Hid (((w.alloc (.cells zero34 26)).alloc (.cells zero34 26)).heap[w.heap.size + 1]? = some (.cells zero34 26 (0, 0))) := hm0
  have HH : Hid (∀ W, Bl (((w.alloc (.cells zero34 26)).alloc (.cells zero34 26)).setRow (w.heap.size + 1) zero34) W → W.heap[w.heap.size]? = some (.cells zero34 26 (0, 0)) ∧ W.heap[w.heap.size + 1]? = some (.cells zero34 26 (0, 0)) ∧ Below w.heap.size w W) := hw0
  have H0 : Bl (((w.alloc (.cells zero34 26)).alloc (.cells zero34 26)).setRow (w.heap.size + 1) zero34) (((w.alloc (.cells zero34 26)).alloc (.cells zero34 26)).setRow (w.heap.size + 1) zero34) := Below.refl _ _
  clear hm0 hw0
  generalize zero34 = Z at *
  have CR : Hid (∀ W, Bl (((w.alloc (.cells Z 26)).alloc (.cells Z 26)).setRow (w.heap.size + 1) Z) W → Calls Tryd.prog 30 #[.string (M.bs s), .int .i64 3] W fun e w' => ∃ a c, e = .returned (.tuple #[.slice a l.length c, .string (M.bs r), .bool true]) ∧ Strs w'.heap.size w' (.slice a l.length c) l ∧ Bl (((w.alloc (.cells Z 26)).alloc (.cells Z 26)).setRow (w.heap.size + 1) Z) w') := fun W hW => rdRow_yes s hs l r hR hW
  clear hs hR
  by_cases hr : r = []
  · have hl3 : ((l.length : Int) != 3) = true := by
      have : l.length ≠ 3 := by rcases hbad with h | h; exact absurd hr h; exact h
      simp; omega
    have hne := bs_nil
    rw [hr] at CR
    clear hbad hr
    go_enter Tryd.func9, Tryd.ntmps9
    go_wp2_with (first
      | (go_at_call 30; refine (CR.out _ H0).mono ?_; clear CR H0; rintro e w2 ⟨a, c, rfl, HS2, HBX⟩; obtain ⟨hn9, hm9, hf9⟩ := HH.out _ HBX; have HN : Hid _ := hn9; have HM : Hid _ := hm9; have HF : Hid _ := hf9; clear hn9 hm9 hf9)
      | (refine wpList_store_row rfl 26 _ _ rfl (w.heap.size + 1) Z rfl rfl 26 Z HM0.out (by rw [hz]; exact info27m) rfl h1 ?_; clear HM0)
      | (refine wpList_load_row rfl 26 _ rfl (w.heap.size + 1) rfl 26 Z (0, 0) _ HM.out hum rfl (by rw [hz]; exact info27m) ?_; clear HM)
      | (refine wpList_store_row rfl 26 _ _ rfl w.heap.size Z rfl rfl 26 Z HN.out (by rw [hz]; exact info27m) rfl h1 ?_))
    (try simp only [Exit.inBlock, Exit.then])
    refine bodyPost_ret (results2_row rfl _ _ _ 26 Z (0, 0) _ rfl (setRow_heap _ _ _ _ _ _ HN.out) hum rfl (by rw [hz]; exact info27m)) rfl ?_
    exact ⟨rfl, below_setRow HF.out (Nat.le_refl _) _⟩
  · have hne := bs_ne r (by cases r with | nil => exact absurd rfl hr | cons => simp)
    clear hbad hr
    go_enter Tryd.func9, Tryd.ntmps9
    go_wp2_with (first
      | (go_at_call 30; refine (CR.out _ H0).mono ?_; clear CR H0; rintro e w2 ⟨a, c, rfl, HS2, HBX⟩; obtain ⟨hn9, hm9, hf9⟩ := HH.out _ HBX; have HN : Hid _ := hn9; have HM : Hid _ := hm9; have HF : Hid _ := hf9; clear hn9 hm9 hf9)
      | (refine wpList_store_row rfl 26 _ _ rfl (w.heap.size + 1) Z rfl rfl 26 Z HM0.out (by rw [hz]; exact info27m) rfl h1 ?_; clear HM0)
      | (refine wpList_load_row rfl 26 _ rfl (w.heap.size + 1) rfl 26 Z (0, 0) _ HM.out hum rfl (by rw [hz]; exact info27m) ?_; clear HM)
      | (refine wpList_store_row rfl 26 _ _ rfl w.heap.size Z rfl rfl 26 Z HN.out (by rw [hz]; exact info27m) rfl h1 ?_))
    (try simp only [Exit.inBlock, Exit.then])
    refine bodyPost_ret (results2_row rfl _ _ _ 26 Z (0, 0) _ rfl (setRow_heap _ _ _ _ _ _ HN.out) hum rfl (by rw [hz]; exact info27m)) rfl ?_
    exact ⟨rfl, below_setRow HF.out (Nat.le_refl _) _⟩
set_option maxRecDepth 8000 in
set_option maxHeartbeats 1000000 in
theorem rdec_C (s : List UInt8) (w : World) (hs : s.length ≤ 140737488355328) (a b c : List UInt8) (hR : M.readRow s 3 = some ([a, b, c], [])) (hal : a.length ≤ 140737488355328) (hbl : b.length ≤ 140737488355328) (hcl : c.length ≤ 140737488355328)
    (hbad : a.length ≠ 32 ∨ (a.length = 32 ∧ c.length % 32 ≠ 0) ∨ (a.length = 32 ∧ c.length % 32 = 0 ∧ (M.readNum b = none ∨ ∃ n r, M.readNum b = some (n, r) ∧ r ≠ []))) :
    Calls Tryd.prog 9 #[.string (M.bs s)] w fun e w' => e = .returned (.tuple #[.agg zero34, .int .i64 3]) ∧ Below w.heap.size w w' := by
  have hz := zero34_size
  have h1 : zero34.all (·.oneCell') = true := mv_one _ _ _ _ _
  obtain ⟨fs, hum⟩ := und27m
  have hzz : ∀ W, (zeroValue 26).run Tryd.prog W = .ok (.agg zero34) W := zero27m
  obtain ⟨hm0, hw0⟩ := rd_base zero34 w
  have HM0 : Hid (((w.alloc (.cells zero34 26)).alloc (.cells zero34 26)).heap[w.heap.size + 1]? = some (.cells zero34 26 (0, 0))) := hm0
  have HH : Hid (∀ W, Bl (((w.alloc (.cells zero34 26)).alloc (.cells zero34 26)).setRow (w.heap.size + 1) zero34) W → W.heap[w.heap.size]? = some (.cells zero34 26 (0, 0)) ∧ W.heap[w.heap.size + 1]? = some (.cells zero34 26 (0, 0)) ∧ Below w.heap.size w W) := hw0
  have H0 : Bl (((w.alloc (.cells zero34 26)).alloc (.cells zero34 26)).setRow (w.heap.size + 1) zero34) (((w.alloc (.cells zero34 26)).alloc (.cells zero34 26)).setRow (w.heap.size + 1) zero34) := Below.refl _ _
  clear hm0 hw0
  generalize zero34 = Z at *
  have CR : Hid (∀ W, Bl (((w.alloc (.cells Z 26)).alloc (.cells Z 26)).setRow (w.heap.size + 1) Z) W → Calls Tryd.prog 30 #[.string (M.bs s), .int .i64 3] W fun e w' => ∃ sa sc, e = .returned (.tuple #[.slice sa 3 sc, .string ⟨#[]⟩, .bool true]) ∧ Strs w'.heap.size w' (.slice sa 3 sc) [a, b, c] ∧ Bl (((w.alloc (.cells Z 26)).alloc (.cells Z 26)).setRow (w.heap.size + 1) Z) w') := fun W hW => rdRow_yes s hs [a, b, c] [] hR hW
  have CN : Hid (∀ W, Bl (((w.alloc (.cells Z 26)).alloc (.cells Z 26)).setRow (w.heap.size + 1) Z) W → Calls Tryd.prog 31 #[.string (M.bs b)] W fun e w' => e = .returned (rnV (M.readNum b)) ∧ Bl (((w.alloc (.cells Z 26)).alloc (.cells Z 26)).setRow (w.heap.size + 1) Z) w') := fun W hW => rdNum b hbl hW
  have hne := bs_nil
  have hza := M.bs_size a
  have hzc := M.bs_size c
  clear hs hR
  rcases hbad with ha | ⟨ha, hm⟩ | ⟨ha, hm, hN⟩
  · have ha1 : ((a.length : Int) != 32) = true := by simp; omega
    clear CN ha
    go_enter Tryd.func9, Tryd.ntmps9
    go_wp2_with (first
      | (go_at_call 30; refine (CR.out _ H0).mono ?_; clear CR H0; rintro e w2 ⟨sa, sc, rfl, HS2, HB2⟩; obtain ⟨sb, off, e1, _, hc0⟩ := strs_at HS2 0 a rfl; obtain ⟨sb1, off1, e2, _, hc1⟩ := strs_at HS2 1 b rfl; obtain ⟨sb2, off2, e3, _, hc2⟩ := strs_at HS2 2 c rfl; subst e1; simp only [Option.some.injEq, Addr.mk.injEq, and_true] at e2 e3; obtain ⟨rfl, rfl⟩ := e2; obtain ⟨rfl, rfl⟩ := e3; rw [Nat.add_zero] at hc0; clear HS2; have HBX := HB2; obtain ⟨hn9, hm9, hf9⟩ := HH.out _ HBX; have HN : Hid _ := hn9; have HM : Hid _ := hm9; have HF : Hid _ := hf9; clear hn9 hm9 hf9)
      | (refine wpList_store_row rfl 26 _ _ rfl (w.heap.size + 1) Z rfl rfl 26 Z HM0.out (by rw [hz]; exact info27m) rfl h1 ?_; clear HM0)
      | (refine wpList_load_row rfl 26 _ rfl (w.heap.size + 1) rfl 26 Z (0, 0) _ HM.out hum rfl (by rw [hz]; exact info27m) ?_; clear HM)
      | (refine wpList_store_row rfl 26 _ _ rfl w.heap.size Z rfl rfl 26 Z HN.out (by rw [hz]; exact info27m) rfl h1 ?_))
    (try simp only [Exit.inBlock, Exit.then])
    refine bodyPost_ret (results2_row rfl _ _ _ 26 Z (0, 0) _ rfl (setRow_heap _ _ _ _ _ _ HN.out) hum rfl (by rw [hz]; exact info27m)) rfl ?_
    exact ⟨rfl, below_setRow HF.out (Nat.le_refl _) _⟩
  · have ha1 : ((a.length : Int) != 32) = false := by simp; omega
    have hm1 : ((c.length : Int) % 32 != 0) = true := by simp; omega
    have hm2 : Int.tmod (c.length : Int) 32 = (c.length : Int) % 32 := Int.tmod_eq_emod_of_nonneg (by omega)
    clear CN ha hm
    go_enter Tryd.func9, Tryd.ntmps9
    go_wp2_with (first
      | (go_at_call 30; refine (CR.out _ H0).mono ?_; clear CR H0; rintro e w2 ⟨sa, sc, rfl, HS2, HB2⟩; obtain ⟨sb, off, e1, _, hc0⟩ := strs_at HS2 0 a rfl; obtain ⟨sb1, off1, e2, _, hc1⟩ := strs_at HS2 1 b rfl; obtain ⟨sb2, off2, e3, _, hc2⟩ := strs_at HS2 2 c rfl; subst e1; simp only [Option.some.injEq, Addr.mk.injEq, and_true] at e2 e3; obtain ⟨rfl, rfl⟩ := e2; obtain ⟨rfl, rfl⟩ := e3; rw [Nat.add_zero] at hc0; clear HS2; have HBX := HB2; obtain ⟨hn9, hm9, hf9⟩ := HH.out _ HBX; have HN : Hid _ := hn9; have HM : Hid _ := hm9; have HF : Hid _ := hf9; clear hn9 hm9 hf9)
      | (refine wpList_store_row rfl 26 _ _ rfl (w.heap.size + 1) Z rfl rfl 26 Z HM0.out (by rw [hz]; exact info27m) rfl h1 ?_; clear HM0)
      | (refine wpList_load_row rfl 26 _ rfl (w.heap.size + 1) rfl 26 Z (0, 0) _ HM.out hum rfl (by rw [hz]; exact info27m) ?_; clear HM)
      | (refine wpList_store_row rfl 26 _ _ rfl w.heap.size Z rfl rfl 26 Z HN.out (by rw [hz]; exact info27m) rfl h1 ?_))
    (try simp only [Exit.inBlock, Exit.then])
    refine bodyPost_ret (results2_row rfl _ _ _ 26 Z (0, 0) _ rfl (setRow_heap _ _ _ _ _ _ HN.out) hum rfl (by rw [hz]; exact info27m)) rfl ?_
    exact ⟨rfl, below_setRow HF.out (Nat.le_refl _) _⟩
  · have ha1 : ((a.length : Int) != 32) = false := by simp; omega
    have hm2 : Int.tmod (c.length : Int) 32 = 0 := by rw [Int.tmod_eq_emod_of_nonneg (by omega)]; omega
    clear ha hm
    rcases hN with hN | ⟨n, r, hN, hr⟩
    · rw [hN] at CN
      unfold rnV at CN
      clear hN
      go_enter Tryd.func9, Tryd.ntmps9
      go_wp2_with (first
        | (go_at_call 30; refine (CR.out _ H0).mono ?_; clear CR H0; rintro e w2 ⟨sa, sc, rfl, HS2, HB2⟩; obtain ⟨sb, off, e1, _, hc0⟩ := strs_at HS2 0 a rfl; obtain ⟨sb1, off1, e2, _, hc1⟩ := strs_at HS2 1 b rfl; obtain ⟨sb2, off2, e3, _, hc2⟩ := strs_at HS2 2 c rfl; subst e1; simp only [Option.some.injEq, Addr.mk.injEq, and_true] at e2 e3; obtain ⟨rfl, rfl⟩ := e2; obtain ⟨rfl, rfl⟩ := e3; rw [Nat.add_zero] at hc0; clear HS2)
        | (go_at_call 31; refine (CN.out _ HB2).mono ?_; clear CN HB2 hc0 hc1 hc2; rintro e w4 ⟨rfl, HBX⟩; obtain ⟨hn9, hm9, hf9⟩ := HH.out _ HBX; have HN : Hid _ := hn9; have HM : Hid _ := hm9; have HF : Hid _ := hf9; clear hn9 hm9 hf9)
        | (refine wpList_store_row rfl 26 _ _ rfl (w.heap.size + 1) Z rfl rfl 26 Z HM0.out (by rw [hz]; exact info27m) rfl h1 ?_; clear HM0)
        | (refine wpList_load_row rfl 26 _ rfl (w.heap.size + 1) rfl 26 Z (0, 0) _ HM.out hum rfl (by rw [hz]; exact info27m) ?_; clear HM)
        | (refine wpList_store_row rfl 26 _ _ rfl w.heap.size Z rfl rfl 26 Z HN.out (by rw [hz]; exact info27m) rfl h1 ?_))
      (try simp only [Exit.inBlock, Exit.then])
      refine bodyPost_ret (results2_row rfl _ _ _ 26 Z (0, 0) _ rfl (setRow_heap _ _ _ _ _ _ HN.out) hum rfl (by rw [hz]; exact info27m)) rfl ?_
      exact ⟨rfl, below_setRow HF.out (Nat.le_refl _) _⟩
    · rw [hN] at CN
      unfold rnV at CN
      have hne2 := bs_ne r (by cases r with | nil => exact absurd rfl hr | cons => simp)
      clear hN hr
      go_enter Tryd.func9, Tryd.ntmps9
      go_wp2_with (first
        | (go_at_call 30; refine (CR.out _ H0).mono ?_; clear CR H0; rintro e w2 ⟨sa, sc, rfl, HS2, HB2⟩; obtain ⟨sb, off, e1, _, hc0⟩ := strs_at HS2 0 a rfl; obtain ⟨sb1, off1, e2, _, hc1⟩ := strs_at HS2 1 b rfl; obtain ⟨sb2, off2, e3, _, hc2⟩ := strs_at HS2 2 c rfl; subst e1; simp only [Option.some.injEq, Addr.mk.injEq, and_true] at e2 e3; obtain ⟨rfl, rfl⟩ := e2; obtain ⟨rfl, rfl⟩ := e3; rw [Nat.add_zero] at hc0; clear HS2)
        | (go_at_call 31; refine (CN.out _ HB2).mono ?_; clear CN HB2 hc0 hc1 hc2; rintro e w4 ⟨rfl, HBX⟩; obtain ⟨hn9, hm9, hf9⟩ := HH.out _ HBX; have HN : Hid _ := hn9; have HM : Hid _ := hm9; have HF : Hid _ := hf9; clear hn9 hm9 hf9)
        | (refine wpList_store_row rfl 26 _ _ rfl (w.heap.size + 1) Z rfl rfl 26 Z HM0.out (by rw [hz]; exact info27m) rfl h1 ?_; clear HM0)
        | (refine wpList_load_row rfl 26 _ rfl (w.heap.size + 1) rfl 26 Z (0, 0) _ HM.out hum rfl (by rw [hz]; exact info27m) ?_; clear HM)
        | (refine wpList_store_row rfl 26 _ _ rfl w.heap.size Z rfl rfl 26 Z HN.out (by rw [hz]; exact info27m) rfl h1 ?_))
      (try simp only [Exit.inBlock, Exit.then])
      refine bodyPost_ret (results2_row rfl _ _ _ 26 Z (0, 0) _ rfl (setRow_heap _ _ _ _ _ _ HN.out) hum rfl (by rw [hz]; exact info27m)) rfl ?_
      exact ⟨rfl, below_setRow HF.out (Nat.le_refl _) _⟩
end Go.Proofs.YtahdmhenkjbimaaDoor
