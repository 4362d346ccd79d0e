/- What comb.Decode answers of bytes that are no manifest's. -/
import Derived.Test.YtahdmhenkjbimaaDoorK6
import Derived.Test.YtahdmhenkjbimaaDoorK0
namespace Go.Proofs.YtahdmhenkjbimaaDoor
open Go.RowKit
set_option linter.unusedVariables false
set_option linter.unusedSimpArgs false

set_option maxRecDepth 8000 in
set_option maxHeartbeats 1000000 in
theorem decode_A (s : List UInt8) (w : World) (hs : s.length ≤ 9223372036854775807) (hR : M.readRow s 3 = none) :
    Calls Tryd.prog 8 #[.string (M.bs s)] w fun e w' => e = .returned (.tuple #[.agg zero34, .int .i64 3]) ∧ Below w.heap.size w w' := by
  have hz := zero34_size
  have h1 : zero34.all (·.oneCell') = true := mv_one _ _ _ _ _
  obtain ⟨fs, hum⟩ := und27m
  have hzz : ∀ W, (zeroValue 26).run Tryd.prog W = .ok (.agg zero34) W := zero27m
  have HB : Hid (Below w.heap.size w (w.alloc (.cells zero34 26))) := (Below.refl _ w).alloc (Nat.le_refl _) _
  have HH : Hid (∀ W, Bl (w.alloc (.cells zero34 26)) W → W.heap[w.heap.size]? = some (.cells zero34 26 (0, 0))) := fun W hW => by rw [Below.block hW _ (by simp)]; exact heap_alloc_new _ _
  have H0 : Bl (w.alloc (.cells zero34 26)) (w.alloc (.cells zero34 26)) := Below.refl _ _
  have HE : Hid (∀ W, Bl (w.alloc (.cells zero34 26)) W → Below w.heap.size w W) := fun W hW => HB.out.trans (Below.mono hW (by simp))
  generalize zero34 = Z at *
  have CR : Hid (∀ W, Bl (w.alloc (.cells Z 26)) W → Calls Tryd.prog 26 #[.string (M.bs s), .int .i64 3] W fun e w' => e = .returned (.tuple #[.slice none 0 0, .string ⟨#[]⟩, .bool false]) ∧ Bl (w.alloc (.cells Z 26)) w') := fun W hW => readRow_noneX s 3 hs (Or.inl (by omega)) hR hW
  clear hs hR
  go_enter Tryd.func8, Tryd.ntmps8
  go_wp2_with (first
    | (go_at_call 26; refine (CR.out _ H0).mono ?_; clear CR H0; rintro e w2 ⟨rfl, HB2⟩; have HN : Hid _ := HH.out _ HB2; have HF : Hid _ := HE.out _ HB2)
    | (refine wpList_store_row rfl 26 _ _ rfl w.heap.size Z rfl rfl 26 Z HN.out (by rw [hz]; exact info27m) rfl h1 ?_))
  (try simp only [Exit.inBlock, Exit.then])
  refine bodyPost_ret (results2_row rfl _ _ _ 26 Z (0, 0) _ rfl (setRow_heap _ _ _ _ _ _ HN.out) hum rfl (by rw [hz]; exact info27m)) rfl ?_
  exact ⟨rfl, below_setRow HF.out (Nat.le_refl _) _⟩
set_option maxRecDepth 8000 in
set_option maxHeartbeats 1000000 in
theorem decode_B (s : List UInt8) (w : World) (hs : s.length ≤ 9223372036854775807) (l : List (List UInt8)) (r : List UInt8) (hR : M.readRow s 3 = some (l, r)) (hbad : r ≠ [] ∨ l.length ≠ 3) (hl : l.length ≤ 3) (hrl : r.length ≤ 9223372036854775807) :
    Calls Tryd.prog 8 #[.string (M.bs s)] w fun e w' => e = .returned (.tuple #[.agg zero34, .int .i64 3]) ∧ Below w.heap.size w w' := by
  have hz := zero34_size
  have h1 : zero34.all (·.oneCell') = true := mv_one _ _ _ _ _
  obtain ⟨fs, hum⟩ := und27m
  have hzz : ∀ W, (zeroValue 26).run Tryd.prog W = .ok (.agg zero34) W := zero27m
  have HB : Hid (Below w.heap.size w (w.alloc (.cells zero34 26))) := (Below.refl _ w).alloc (Nat.le_refl _) _
  have HH : Hid (∀ W, Bl (w.alloc (.cells zero34 26)) W → W.heap[w.heap.size]? = some (.cells zero34 26 (0, 0))) := fun W hW => by rw [Below.block hW _ (by simp)]; exact heap_alloc_new _ _
  have H0 : Bl (w.alloc (.cells zero34 26)) (w.alloc (.cells zero34 26)) := Below.refl _ _
  have HE : Hid (∀ W, Bl (w.alloc (.cells zero34 26)) W → Below w.heap.size w W) := fun W hW => HB.out.trans (Below.mono hW (by simp))
  generalize zero34 = Z at *
  have CR : Hid (∀ W, Bl (w.alloc (.cells Z 26)) W → Calls Tryd.prog 26 #[.string (M.bs s), .int .i64 3] W fun e w' => ∃ a c, e = .returned (.tuple #[.slice a l.length c, .string (M.bs r), .bool true]) ∧ Strs w'.heap.size w' (.slice a l.length c) l ∧ Bl (w.alloc (.cells Z 26)) w') := fun W hW => readRow_yesX s 3 hs (Or.inl (by omega)) l r hR hW
  clear hs hR
  by_cases hr : r = []
  · have hl3 : ((l.length : Int) != 3) = true := by
      have : l.length ≠ 3 := by rcases hbad with h | h; exact absurd hr h; exact h
      simp; omega
    have hne := bs_nil
    rw [hr] at CR
    clear hbad hr
    go_enter Tryd.func8, Tryd.ntmps8
    go_wp2_with (first
      | (go_at_call 26; refine (CR.out _ H0).mono ?_; clear CR H0; rintro e w2 ⟨a, c, rfl, HS2, HB2⟩; have HN : Hid _ := HH.out _ HB2; have HF : Hid _ := HE.out _ HB2)
      | (refine wpList_store_row rfl 26 _ _ rfl w.heap.size Z rfl rfl 26 Z HN.out (by rw [hz]; exact info27m) rfl h1 ?_))
    (try simp only [Exit.inBlock, Exit.then])
    refine bodyPost_ret (results2_row rfl _ _ _ 26 Z (0, 0) _ rfl (setRow_heap _ _ _ _ _ _ HN.out) hum rfl (by rw [hz]; exact info27m)) rfl ?_
    exact ⟨rfl, below_setRow HF.out (Nat.le_refl _) _⟩
  · have hne := bs_ne r (by cases r with | nil => exact absurd rfl hr | cons => simp)
    clear hbad hr
    go_enter Tryd.func8, Tryd.ntmps8
    go_wp2_with (first
      | (go_at_call 26; refine (CR.out _ H0).mono ?_; clear CR H0; rintro e w2 ⟨a, c, rfl, HS2, HB2⟩; have HN : Hid _ := HH.out _ HB2; have HF : Hid _ := HE.out _ HB2)
      | (refine wpList_store_row rfl 26 _ _ rfl w.heap.size Z rfl rfl 26 Z HN.out (by rw [hz]; exact info27m) rfl h1 ?_))
    (try simp only [Exit.inBlock, Exit.then])
    refine bodyPost_ret (results2_row rfl _ _ _ 26 Z (0, 0) _ rfl (setRow_heap _ _ _ _ _ _ HN.out) hum rfl (by rw [hz]; exact info27m)) rfl ?_
    exact ⟨rfl, below_setRow HF.out (Nat.le_refl _) _⟩
set_option maxRecDepth 8000 in
set_option maxHeartbeats 1000000 in
theorem decode_C (s : List UInt8) (w : World) (hs : s.length ≤ 9223372036854775807) (a b c : List UInt8) (hR : M.readRow s 3 = some ([a, b, c], [])) (hal : a.length ≤ 9223372036854775807) (hbl : b.length ≤ 9223372036854775807) (hcl : c.length ≤ 9223372036854775807)
    (hbad : M.readNum b = none ∨ ∃ n r, M.readNum b = some (n, r) ∧ (r ≠ [] ∨ a.length ≠ 32 ∨ c.length % 32 ≠ 0 ∨ goodB n (c.length / 32) = false)) :
    Calls Tryd.prog 8 #[.string (M.bs s)] w fun e w' => e = .returned (.tuple #[.agg zero34, .int .i64 3]) ∧ Below w.heap.size w w' := by
  have hz := zero34_size
  have h1 : zero34.all (·.oneCell') = true := mv_one _ _ _ _ _
  obtain ⟨fs, hum⟩ := und27m
  have hzz : ∀ W, (zeroValue 26).run Tryd.prog W = .ok (.agg zero34) W := zero27m
  have HB : Hid (Below w.heap.size w (w.alloc (.cells zero34 26))) := (Below.refl _ w).alloc (Nat.le_refl _) _
  have HH : Hid (∀ W, Bl (w.alloc (.cells zero34 26)) W → W.heap[w.heap.size]? = some (.cells zero34 26 (0, 0))) := fun W hW => by rw [Below.block hW _ (by simp)]; exact heap_alloc_new _ _
  have H0 : Bl (w.alloc (.cells zero34 26)) (w.alloc (.cells zero34 26)) := Below.refl _ _
  have HE : Hid (∀ W, Bl (w.alloc (.cells zero34 26)) W → Below w.heap.size w W) := fun W hW => HB.out.trans (Below.mono hW (by simp))
  generalize zero34 = Z at *
  have CR : Hid (∀ W, Bl (w.alloc (.cells Z 26)) W → Calls Tryd.prog 26 #[.string (M.bs s), .int .i64 3] W fun e w' => ∃ sa sc, e = .returned (.tuple #[.slice sa 3 sc, .string ⟨#[]⟩, .bool true]) ∧ Strs w'.heap.size w' (.slice sa 3 sc) [a, b, c] ∧ Bl (w.alloc (.cells Z 26)) w') := fun W hW => readRow_yesX s 3 hs (Or.inl (by omega)) [a, b, c] [] hR hW
  have CN : Hid (∀ W, Bl (w.alloc (.cells Z 26)) W → Calls Tryd.prog 27 #[.string (M.bs b)] W fun e w' => e = .returned (rnV (M.readNum b)) ∧ Bl (w.alloc (.cells Z 26)) w') := fun W hW => readNum_b b (by unfold maxLen; omega) hW
  have hne := bs_nil
  have hza := M.bs_size a
  have hzc := M.bs_size c
  clear hs hR
  go_enter Tryd.func8, Tryd.ntmps8
  go_wp2_with (first
    | (go_at_call 26; refine (CR.out _ H0).mono ?_; clear CR H0; rintro e w2 ⟨sa, sc, rfl, HS2, HB2⟩))
  obtain ⟨sb, off, e1, _, hc0⟩ := strs_at HS2 0 a rfl
  obtain ⟨sb1, off1, e2, _, hc1⟩ := strs_at HS2 1 b rfl
  obtain ⟨sb2, off2, e3, _, hc2⟩ := strs_at HS2 2 c rfl
  subst e1
  simp only [Option.some.injEq, Addr.mk.injEq, and_true] at e2 e3
  obtain ⟨rfl, rfl⟩ := e2
  obtain ⟨rfl, rfl⟩ := e3
  rw [Nat.add_zero] at hc0
  go_quiet (fail)
  have HB3 : Bl (w.alloc (.cells Z 26)) (w2.drewN nq) := HB2.drewN nq
  clear HS2 hc0 hc1 hc2 HB2
  generalize w2.drewN nq = w3 at *
  cases hN : M.readNum b with
  | none =>
    rw [hN] at CN
    clear hbad hN
    unfold rnV at CN
    go_wp2_with (first
      | (go_at_call 27; refine (CN.out _ HB3).mono ?_; clear CN HB3; rintro e w4 ⟨rfl, HB4⟩; have HN : Hid _ := HH.out _ HB4; have HF : Hid _ := HE.out _ HB4)
      | (refine wpList_store_row rfl 26 _ _ rfl w.heap.size Z rfl rfl 26 Z HN.out (by rw [hz]; exact info27m) rfl h1 ?_))
    (try simp only [Exit.inBlock, Exit.then])
    refine bodyPost_ret (results2_row rfl _ _ _ 26 Z (0, 0) _ rfl (setRow_heap _ _ _ _ _ _ HN.out) hum rfl (by rw [hz]; exact info27m)) rfl ?_
    exact ⟨rfl, below_setRow HF.out (Nat.le_refl _) _⟩
  | some x =>
    obtain ⟨n, r⟩ := x
    rw [hN] at CN hbad
    unfold rnV at CN
    have hbad' : r ≠ [] ∨ a.length ≠ 32 ∨ c.length % 32 ≠ 0 ∨ goodB n (c.length / 32) = false := by
      rcases hbad with h | ⟨n', r', h, h2⟩
      · cases h
      · simp only [Option.some.injEq, Prod.mk.injEq] at h
        obtain ⟨rfl, rfl⟩ := h
        exact h2
    clear hbad hN
    by_cases hr : r = []
    · rw [hr] at CN
      have hbad2 : a.length ≠ 32 ∨ c.length % 32 ≠ 0 ∨ goodB n (c.length / 32) = false := by
        rcases hbad' with h | h
        · exact absurd hr h
        · exact h
      clear hbad' hr
      by_cases ha : a.length = 32
      · have ha1 : ((a.length : Int) != 32) = false := by simp; omega
        have hbad3 : c.length % 32 ≠ 0 ∨ goodB n (c.length / 32) = false := by
          rcases hbad2 with h | h
          · exact absurd ha h
          · exact h
        clear hbad2 ha
        by_cases hm : c.length % 32 = 0
        · have hm1 : ((c.length : Int) % 32 != 0) = false := by simp; omega
          have hm2 : Int.tmod (c.length : Int) 32 = 0 := by rw [Int.tmod_eq_emod_of_nonneg (by omega)]; omega
          have hq : Int.tdiv (c.length : Int) 32 = ((c.length / 32 : Nat) : Int) := by rw [Int.tdiv_eq_ediv_of_nonneg (by omega)]; omega
          have hgd : goodB n (c.length / 32) = false := by
            rcases hbad3 with h | h
            · exact absurd hm h
            · exact h
          have CZ : Hid (∀ W, Bl (w.alloc (.cells Z 26)) W → Calls Tryd.prog 28 #[.int .i64 n, .int .i64 ((c.length / 32 : Nat) : Int)] W fun e w' => e = .returned (.bool false) ∧ Bl (w.alloc (.cells Z 26)) w') := fun W hW => by
            rw [← hgd]
            refine (sized_at n (c.length / 32) W).mono ?_
            rintro e w' ⟨rfl, rfl⟩
            exact ⟨rfl, hW⟩
          clear hbad3 hgd hm
          obtain ⟨Q, hQ⟩ : ∃ Q, Q = c.length / 32 := ⟨_, rfl⟩
          rw [← hQ] at CZ hq
          have hQ2 : Q ≤ 9223372036854775807 := by omega
          clear hQ
          go_wp2_with (first
            | (go_at_call 27; refine (CN.out _ HB3).mono ?_; clear CN HB3; rintro e w4 ⟨rfl, HB4⟩)
            | (go_at_call 28; refine (CZ.out _ HB4).mono ?_; clear CZ HB4; rintro e w5 ⟨rfl, HB5⟩; have HN : Hid _ := HH.out _ HB5; have HF : Hid _ := HE.out _ HB5)
            | (refine wpList_store_row rfl 26 _ _ rfl w.heap.size Z rfl rfl 26 Z HN.out (by rw [hz]; exact info27m) rfl h1 ?_))
          (try simp only [Exit.inBlock, Exit.then])
          refine bodyPost_ret (results2_row rfl _ _ _ 26 Z (0, 0) _ rfl (setRow_heap _ _ _ _ _ _ HN.out) hum rfl (by rw [hz]; exact info27m)) rfl ?_
          exact ⟨rfl, below_setRow HF.out (Nat.le_refl _) _⟩
        · have hm1 : ((c.length : Int) % 32 != 0) = true := by simp; omega
          have hm2 : Int.tmod (c.length : Int) 32 = (c.length : Int) % 32 := Int.tmod_eq_emod_of_nonneg (by omega)
          clear hbad3 hm
          go_wp2_with (first
            | (go_at_call 27; refine (CN.out _ HB3).mono ?_; clear CN HB3; rintro e w4 ⟨rfl, HB4⟩; have HN : Hid _ := HH.out _ HB4; have HF : Hid _ := HE.out _ HB4)
            | (refine wpList_store_row rfl 26 _ _ rfl w.heap.size Z rfl rfl 26 Z HN.out (by rw [hz]; exact info27m) rfl h1 ?_))
          (try simp only [Exit.inBlock, Exit.then])
          refine bodyPost_ret (results2_row rfl _ _ _ 26 Z (0, 0) _ rfl (setRow_heap _ _ _ _ _ _ HN.out) hum rfl (by rw [hz]; exact info27m)) rfl ?_
          exact ⟨rfl, below_setRow HF.out (Nat.le_refl _) _⟩
      · have ha1 : ((a.length : Int) != 32) = true := by simp; omega
        clear hbad2 ha
        go_wp2_with (first
          | (go_at_call 27; refine (CN.out _ HB3).mono ?_; clear CN HB3; rintro e w4 ⟨rfl, HB4⟩; have HN : Hid _ := HH.out _ HB4; have HF : Hid _ := HE.out _ HB4)
          | (refine wpList_store_row rfl 26 _ _ rfl w.heap.size Z rfl rfl 26 Z HN.out (by rw [hz]; exact info27m) rfl h1 ?_))
        (try simp only [Exit.inBlock, Exit.then])
        refine bodyPost_ret (results2_row rfl _ _ _ 26 Z (0, 0) _ rfl (setRow_heap _ _ _ _ _ _ HN.out) hum rfl (by rw [hz]; exact info27m)) rfl ?_
        exact ⟨rfl, below_setRow HF.out (Nat.le_refl _) _⟩
    · have hne2 := bs_ne r (by cases r with | nil => exact absurd rfl hr | cons => simp)
      clear hbad' hr
      go_wp2_with (first
        | (go_at_call 27; refine (CN.out _ HB3).mono ?_; clear CN HB3; rintro e w4 ⟨rfl, HB4⟩; have HN : Hid _ := HH.out _ HB4; have HF : Hid _ := HE.out _ HB4)
        | (refine wpList_store_row rfl 26 _ _ rfl w.heap.size Z rfl rfl 26 Z HN.out (by rw [hz]; exact info27m) rfl h1 ?_))
      (try simp only [Exit.inBlock, Exit.then])
      refine bodyPost_ret (results2_row rfl _ _ _ 26 Z (0, 0) _ rfl (setRow_heap _ _ _ _ _ _ HN.out) hum rfl (by rw [hz]; exact info27m)) rfl ?_
      exact ⟨rfl, below_setRow HF.out (Nat.le_refl _) _⟩
end Go.Proofs.YtahdmhenkjbimaaDoor
