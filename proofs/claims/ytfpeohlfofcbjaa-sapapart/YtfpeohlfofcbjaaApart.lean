/- SapApart's walk: none begins with another one of its kind. -/
import Derived.Test.YtfpeohlfofcbjaaW9
import Derived.Test.YtfpeohlfofcbjaaRows
namespace Go.Proofs.Ytfpeohlfofcbjaa
open Go.RowKit
set_option linter.unusedVariables false

theorem num_apart (na nb : Int) (h1 : -9223372036854775808 ≤ na) (h2 : na < 9223372036854775808) (h3 : -9223372036854775808 ≤ nb) (h4 : nb < 9223372036854775808) :
    ((M.numB na).take (min (M.numB na).length (M.numB nb).length) == (M.numB nb).take (min (M.numB na).length (M.numB nb).length)) = (na == nb) := by
  rw [Bool.eq_iff_iff]
  simp only [beq_iff_eq]
  constructor
  · intro e
    rcases Nat.le_total (M.numB na).length (M.numB nb).length with hl | hl
    · rw [Nat.min_eq_left hl, List.take_of_length_le (Nat.le_refl _)] at e
      have h : M.readNum (M.numB nb) = some (na, (M.numB nb).drop (M.numB na).length) := by
        conv => lhs; rw [← List.take_append_drop (M.numB na).length (M.numB nb), ← e]
        exact M.readNum_numB na h1 h2 _
      have h' := M.readNum_numB nb h3 h4 []
      rw [List.append_nil, h] at h'
      simpa using (congrArg (fun o => o.map Prod.fst) h')
    · rw [Nat.min_eq_right hl, List.take_of_length_le (l := M.numB nb) (Nat.le_refl _)] at e
      have h : M.readNum (M.numB na) = some (nb, (M.numB na).drop (M.numB nb).length) := by
        conv => lhs; rw [← List.take_append_drop (M.numB nb).length (M.numB na), e]
        exact M.readNum_numB nb h3 h4 _
      have h' := M.readNum_numB na h1 h2 []
      rw [List.append_nil, h] at h'
      simpa using (congrArg (fun o => o.map Prod.fst) h'.symm)
  · rintro rfl; rfl
theorem row_apart (la lb : List (List UInt8)) (h1 : la.length < 9223372036854775808) (h2 : lb.length < 9223372036854775808) (h3 : ∀ t ∈ la, t.length < 9223372036854775808) (h4 : ∀ t ∈ lb, t.length < 9223372036854775808) :
    ((M.rowB la).take (min (M.rowB la).length (M.rowB lb).length) == (M.rowB lb).take (min (M.rowB la).length (M.rowB lb).length)) = decide (la = lb) := by
  rw [Bool.eq_iff_iff]
  simp only [beq_iff_eq, decide_eq_true_eq]
  constructor
  · intro e
    rcases Nat.le_total (M.rowB la).length (M.rowB lb).length with hl | hl
    · rw [Nat.min_eq_left hl, List.take_of_length_le (Nat.le_refl _)] at e
      have h : M.readRow (M.rowB lb) 9223372036854775807 = some (la, (M.rowB lb).drop (M.rowB la).length) := by
        conv => lhs; rw [← List.take_append_drop (M.rowB la).length (M.rowB lb), ← e]
        exact M.readRow_rowB la _ _ h1 h3 (by omega)
      have h' := M.readRow_rowB lb [] 9223372036854775807 h2 h4 (by omega)
      rw [List.append_nil, h] at h'
      simpa using (congrArg (fun o => o.map Prod.fst) h')
    · rw [Nat.min_eq_right hl, List.take_of_length_le (l := M.rowB lb) (Nat.le_refl _)] at e
      have h : M.readRow (M.rowB la) 9223372036854775807 = some (lb, (M.rowB la).drop (M.rowB lb).length) := by
        conv => lhs; rw [← List.take_append_drop (M.rowB lb).length (M.rowB la), e]
        exact M.readRow_rowB lb _ _ h2 h4 (by omega)
      have h' := M.readRow_rowB la [] 9223372036854775807 h1 h3 (by omega)
      rw [List.append_nil, h] at h'
      simpa using (congrArg (fun o => o.map Prod.fst) h'.symm)
  · rintro rfl; rfl
theorem num_cut (n : Int) (h1 : -9223372036854775808 ≤ n) (h2 : n < 9223372036854775808) (j : Nat) (hj : j < (M.numB n).length) : M.readNum ((M.numB n).take j) = none := by
  cases h : M.readNum ((M.numB n).take j) with
  | none => rfl
  | some x =>
    obtain ⟨m, r⟩ := x
    have e := (M.readNum_some _ _ _ h).1
    have hb := (M.readNum_some _ _ _ h).2
    have h' : M.readNum (M.numB n) = some (m, r ++ (M.numB n).drop j) := by
      conv => lhs; rw [← List.take_append_drop j (M.numB n), ← e, List.append_assoc]
      exact M.readNum_numB m hb.1 hb.2 _
    have h'' := M.readNum_numB n h1 h2 []
    rw [List.append_nil, h'] at h''
    simp only [Option.some.injEq, Prod.mk.injEq, List.append_eq_nil_iff, List.drop_eq_nil_iff] at h''
    omega
theorem row_cut (l : List (List UInt8)) (h1 : l.length ≤ 40) (h3 : ∀ t ∈ l, t.length ≤ 1024) (j : Nat) (hj : j < (M.rowB l).length) : M.readRow ((M.rowB l).take j) 40 = none := by
  cases h : M.readRow ((M.rowB l).take j) 40 with
  | none => rfl
  | some x =>
    obtain ⟨m, r⟩ := x
    have e := (M.readRow_some _ _ _ _ h).1
    have hm := (M.readRow_some _ _ _ _ h).2
    have hl := rowB_le l 1024 h3
    have hlen := congrArg List.length e
    rw [List.length_append] at hlen
    have htl : ((M.rowB l).take j).length ≤ j := List.length_take_le _ _
    have hall : ∀ t ∈ m, t.length < 9223372036854775808 := by
      intro t ht
      have h5 : t.length ≤ (M.rowB m).length := by
        obtain ⟨i, hi⟩ := List.getElem?_of_mem ht
        have h6 := pre_succ m i t hi
        have h7 := pre_le m (i + 1)
        rw [h6] at h7
        simp only [List.length_append] at h7
        omega
      omega
    have h' : M.readRow (M.rowB l) 40 = some (m, r ++ (M.rowB l).drop j) := by
      conv => lhs; rw [← List.take_append_drop j (M.rowB l), ← e, List.append_assoc]
      exact M.readRow_rowB m _ _ (by omega) hall hm
    have h'' := M.readRow_rowB l [] 40 (by omega) (fun t ht => by have := h3 t ht; omega) (by omega)
    rw [List.append_nil, h'] at h''
    simp only [Option.some.injEq, Prod.mk.injEq, List.append_eq_nil_iff, List.drop_eq_nil_iff] at h''
    omega

/-- where a text is cut: below its length -/
theorem cutAt (cut : Int) (n : Nat) (h : 0 < n) (hn : n ≤ 100000) : ∃ j : Nat, wrap64 ((IntKind.u64.wrap cut).tmod (n : Int)) = (j : Int) ∧ j < n := by
  have h0 : 0 ≤ IntKind.u64.wrap cut := by simp only [IntKind.wrap, IntKind.bits, IntKind.signed]; simp; omega
  generalize IntKind.u64.wrap cut = u at h0
  rw [Int.tmod_eq_emod_of_nonneg h0]
  have h1 : 0 ≤ u % (n : Int) := Int.emod_nonneg _ (by omega)
  have h2 : u % (n : Int) < n := Int.emod_lt_of_pos _ (by omega)
  refine ⟨(u % (n : Int)).toNat, ?_, by omega⟩
  generalize u % (n : Int) = v at h1 h2
  unfold wrap64
  omega

/-- two boxes of two cells -/
theorem box2 (w : World) (x y x' y' : Value) (T : TypeId) (w1 : World) (h : Bl ((w.alloc (.cells #[x, y] T)).alloc (.cells #[x', y'] T)) w1) :
    ∃ W2, Bl W2 w1 ∧ Below w.heap.size w W2 ∧ W2.heap.size = w.heap.size + 2 ∧ (∀ W, Bl W2 W → W.cell? ⟨w.heap.size, 0, none⟩ = some x) ∧ (∀ W, Bl W2 W → W.cell? ⟨w.heap.size, 1, none⟩ = some y) ∧
      (∀ W, Bl W2 W → W.cell? ⟨w.heap.size + 1, 0, none⟩ = some x') ∧ (∀ W, Bl W2 W → W.cell? ⟨w.heap.size + 1, 1, none⟩ = some y') := by
  have hs1 : (w.alloc (.cells #[x, y] T)).heap.size = w.heap.size + 1 := by simp
  have hs2 : ((w.alloc (.cells #[x, y] T)).alloc (.cells #[x', y'] T)).heap.size = w.heap.size + 2 := by simp
  have hb : Below w.heap.size w ((w.alloc (.cells #[x, y] T)).alloc (.cells #[x', y'] T)) := ((Below.refl _ w).alloc (Nat.le_refl _) _).alloc (by rw [hs1]; omega) _
  have old : ∀ j, ((w.alloc (.cells #[x, y] T)).alloc (.cells #[x', y'] T)).cell? ⟨w.heap.size, j, none⟩ = #[x, y][j]? := fun j => by
    have h1 : Below (w.alloc (.cells #[x, y] T)).heap.size (w.alloc (.cells #[x, y] T)) ((w.alloc (.cells #[x, y] T)).alloc (.cells #[x', y'] T)) := (Below.refl _ _).alloc (Nat.le_refl _) _
    rw [h1.cell (p := ⟨w.heap.size, j, none⟩) (by rw [hs1]; exact Nat.lt_succ_self _)]
    exact World.cell?_alloc_mark w #[x, y] T (0, 0) j
  have new : ∀ j, ((w.alloc (.cells #[x, y] T)).alloc (.cells #[x', y'] T)).cell? ⟨w.heap.size + 1, j, none⟩ = #[x', y'][j]? := fun j => by
    have h1 := World.cell?_alloc_mark (w.alloc (.cells #[x, y] T)) #[x', y'] T (0, 0) j
    rwa [hs1] at h1
  refine ⟨_, h, hb, hs2, ?_, ?_, ?_, ?_⟩
  · intro W hW; rw [hW.cell (by rw [hs2]; omega), old]; rfl
  · intro W hW; rw [hW.cell (by rw [hs2]; omega), old]; rfl
  · intro W hW; rw [hW.cell (by rw [hs2]; omega), new]; rfl
  · intro W hW; rw [hW.cell (by rw [hs2]; omega), new]; rfl

set_option maxHeartbeats 4000000 in
theorem sapApart_many (na nb cut : Int) (a1 a2 : Option Addr) (n1 c1 n2 c2 : Nat) (w : World) (hm1 : n1 ≤ maxLen) (hm2 : n2 ≤ maxLen) (h : 40 < n1 ∨ (n1 ≤ 40 ∧ 40 < n2)) :
    Calls Try.prog 7 #[.agg #[.int .i64 na, .slice a1 n1 c1], .agg #[.int .i64 nb, .slice a2 n2 c2], .int .i64 cut] w fun e w' => e = .returned (.bool true) ∧ Below w.heap.size w w' := by
  unfold maxLen at hm1 hm2
  rcases h with h | ⟨h, h'⟩
  all_goals
    go_enter Try.func7, Try.ntmps7
    go_wp2_with (go_at_call 9; refine (awake_b (Bl.refl _)).mono ?_)
    rintro e w1 ⟨rfl, HB0⟩
    obtain ⟨W2, HB, hbw, hsz2, hc0, hc1, hc2, hc3⟩ := box2 _ _ _ _ _ _ _ HB0
    clear HB0
    have HW2 : Hid (Below w.heap.size w W2) := hbw
    have HSZ : Hid (W2.heap.size = w.heap.size + 2) := hsz2
    clear hbw hsz2
    go_wp2_with fail
    go_ret
    exact ⟨rfl, Below.trans HW2.out (Below.mono HB (by rw [HSZ.out]; omega))⟩

set_option maxHeartbeats 4000000 in
theorem sapApart_longa (na nb cut : Int) (a1 a2 : Option Addr) (c1 c2 : Nat) (la lb : List (List UInt8)) (w : World) (hn1 : la.length ≤ 40) (hn2 : lb.length ≤ 40)
    (hT1 : ∀ i t, la[i]? = some t → ∃ b off, a1 = some ⟨b, off, none⟩ ∧ b < w.heap.size ∧ w.cell? ⟨b, off + i, none⟩ = some (.string (M.bs t)))
    (hT2 : ∀ i t, lb[i]? = some t → ∃ b off, a2 = some ⟨b, off, none⟩ ∧ b < w.heap.size ∧ w.cell? ⟨b, off + i, none⟩ = some (.string (M.bs t)))
    (j : Nat) (tl : List UInt8) (h1 : la[j]? = some tl) (h2 : 1024 < tl.length) (h2m : tl.length ≤ maxLen) (h3 : ∀ i u, i < j → la[i]? = some u → u.length ≤ 1024) :
    Calls Try.prog 7 #[.agg #[.int .i64 na, .slice a1 la.length c1], .agg #[.int .i64 nb, .slice a2 lb.length c2], .int .i64 cut] w fun e w' => e = .returned (.bool true) ∧ Below w.heap.size w w' := by
  have HT1 : Hid (∀ i t, la[i]? = some t → ∃ b off, a1 = some ⟨b, off, none⟩ ∧ b < w.heap.size ∧ w.cell? ⟨b, off + i, none⟩ = some (.string (M.bs t))) := hT1
  have HT2 : Hid (∀ i t, lb[i]? = some t → ∃ b off, a2 = some ⟨b, off, none⟩ ∧ b < w.heap.size ∧ w.cell? ⟨b, off + i, none⟩ = some (.string (M.bs t))) := hT2
  have hjl : j < la.length := (List.getElem?_eq_some_iff.1 h1).1
  have H1 : Hid (la[j]? = some tl) := h1
  have H3 : Hid (∀ i u, i < j → la[i]? = some u → u.length ≤ 1024) := h3
  unfold maxLen at h2m
  clear hT1 hT2 h1 h3
  go_enter Try.func7, Try.ntmps7
  go_wp2_with (go_at_call 9; refine (awake_b (Bl.refl _)).mono ?_)
  rintro e w1 ⟨rfl, HB0⟩
  obtain ⟨W2, HB, hbw, hsz2, hc0, hc1, hc2, hc3⟩ := box2 _ _ _ _ _ _ _ HB0
  clear HB0
  have HW2 : Hid (Below w.heap.size w W2) := hbw
  have HSZ : Hid (W2.heap.size = w.heap.size + 2) := hsz2
  clear hbw hsz2
  go_wp2_with fail
  go_loop [7] (fun u7 => ∃ k : Nat, k ≤ j ∧ u7 = .int .i64 k) (fun u7 => j - (intOf u7).toNat)
  case atStart => exact ⟨0, Nat.zero_le _, rfl⟩
  case round =>
    obtain ⟨k, hk, rfl⟩ := hrel
    by_cases hlt : k < j
    · obtain ⟨t, ht⟩ : ∃ t, la[k]? = some t := ⟨la[k]'(by omega), List.getElem?_eq_getElem _⟩
      obtain ⟨b, off, rfl, hb, hcell0⟩ := HT1.out k t ht
      have hcell : w1.cell? ⟨b, off + k, none⟩ = some (.string (M.bs t)) := by rw [HB.cell (by rw [HSZ.out]; omega), HW2.out.cell (p := ⟨b, off + k, none⟩) hb]; exact hcell0
      have hz0 := M.bs_size t
      have hz1 := H3.out k t hlt ht
      clear ht hcell0
      go_wp2_with fail
      exact ⟨⟨k + 1, by omega, by go_num⟩, by simp [intOf]; omega⟩
    · obtain rfl : k = j := by omega
      obtain ⟨b, off, rfl, hb, hcell0⟩ := HT1.out k tl H1.out
      have hcell : w1.cell? ⟨b, off + k, none⟩ = some (.string (M.bs tl)) := by rw [HB.cell (by rw [HSZ.out]; omega), HW2.out.cell (p := ⟨b, off + k, none⟩) hb]; exact hcell0
      have hz0 := M.bs_size tl
      clear hcell0
      go_wp2_with fail
      go_ret
      exact ⟨rfl, Below.trans HW2.out (Below.mono HB (by rw [HSZ.out]; omega))⟩

set_option maxHeartbeats 4000000 in
theorem sapApart_longb (na nb cut : Int) (a1 a2 : Option Addr) (c1 c2 : Nat) (la lb : List (List UInt8)) (w : World) (hn1 : la.length ≤ 40) (hn2 : lb.length ≤ 40)
    (hT1 : ∀ i t, la[i]? = some t → ∃ b off, a1 = some ⟨b, off, none⟩ ∧ b < w.heap.size ∧ w.cell? ⟨b, off + i, none⟩ = some (.string (M.bs t)))
    (hT2 : ∀ i t, lb[i]? = some t → ∃ b off, a2 = some ⟨b, off, none⟩ ∧ b < w.heap.size ∧ w.cell? ⟨b, off + i, none⟩ = some (.string (M.bs t)))
    (hall1 : ∀ t ∈ la, t.length ≤ 1024)
    (j : Nat) (tl : List UInt8) (h1 : lb[j]? = some tl) (h2 : 1024 < tl.length) (h2m : tl.length ≤ maxLen) (h3 : ∀ i u, i < j → lb[i]? = some u → u.length ≤ 1024) :
    Calls Try.prog 7 #[.agg #[.int .i64 na, .slice a1 la.length c1], .agg #[.int .i64 nb, .slice a2 lb.length c2], .int .i64 cut] w fun e w' => e = .returned (.bool true) ∧ Below w.heap.size w w' := by
  have HT1 : Hid (∀ i t, la[i]? = some t → ∃ b off, a1 = some ⟨b, off, none⟩ ∧ b < w.heap.size ∧ w.cell? ⟨b, off + i, none⟩ = some (.string (M.bs t))) := hT1
  have HT2 : Hid (∀ i t, lb[i]? = some t → ∃ b off, a2 = some ⟨b, off, none⟩ ∧ b < w.heap.size ∧ w.cell? ⟨b, off + i, none⟩ = some (.string (M.bs t))) := hT2
  have HALL1 : Hid (∀ t ∈ la, t.length ≤ 1024) := hall1
  have hjl : j < lb.length := (List.getElem?_eq_some_iff.1 h1).1
  have H1 : Hid (lb[j]? = some tl) := h1
  have H3 : Hid (∀ i u, i < j → lb[i]? = some u → u.length ≤ 1024) := h3
  unfold maxLen at h2m
  clear hT1 hT2 h1 h3 hall1
  go_enter Try.func7, Try.ntmps7
  go_wp2_with (go_at_call 9; refine (awake_b (Bl.refl _)).mono ?_)
  rintro e w1 ⟨rfl, HB0⟩
  obtain ⟨W2, HB, hbw, hsz2, hc0, hc1, hc2, hc3⟩ := box2 _ _ _ _ _ _ _ HB0
  clear HB0
  have HW2 : Hid (Below w.heap.size w W2) := hbw
  have HSZ : Hid (W2.heap.size = w.heap.size + 2) := hsz2
  clear hbw hsz2
  go_wp2_with fail
  go_loop [7] (fun u7 => ∃ k : Nat, k ≤ la.length ∧ u7 = .int .i64 k) (fun u7 => la.length - (intOf u7).toNat)
  case atStart => exact ⟨0, Nat.zero_le _, rfl⟩
  case round =>
    obtain ⟨k, hk, rfl⟩ := hrel
    by_cases hlt : k < la.length
    · obtain ⟨t, ht⟩ : ∃ t, la[k]? = some t := ⟨la[k], List.getElem?_eq_getElem hlt⟩
      obtain ⟨b, off, rfl, hb, hcell0⟩ := HT1.out k t ht
      have hcell : w1.cell? ⟨b, off + k, none⟩ = some (.string (M.bs t)) := by rw [HB.cell (by rw [HSZ.out]; omega), HW2.out.cell (p := ⟨b, off + k, none⟩) hb]; exact hcell0
      have hz0 := M.bs_size t
      have hz1 := HALL1.out t (mem_of ht)
      clear ht hcell0
      go_wp2_with fail
      exact ⟨⟨k + 1, by omega, by go_num⟩, by simp [intOf]; omega⟩
    · obtain rfl : k = la.length := by omega
      clear hk hlt
      go_wp2_with fail
      go_loop [8] (fun u8 => ∃ k : Nat, k ≤ j ∧ u8 = .int .i64 k) (fun u8 => j - (intOf u8).toNat)
      case atStart => exact ⟨0, Nat.zero_le _, rfl⟩
      case round =>
        obtain ⟨k, hk, rfl⟩ := hrel
        by_cases hlt : k < j
        · obtain ⟨t, ht⟩ : ∃ t, lb[k]? = some t := ⟨lb[k]'(by omega), List.getElem?_eq_getElem _⟩
          obtain ⟨b, off, rfl, hb, hcell0⟩ := HT2.out k t ht
          have hcell : w1.cell? ⟨b, off + k, none⟩ = some (.string (M.bs t)) := by rw [HB.cell (by rw [HSZ.out]; omega), HW2.out.cell (p := ⟨b, off + k, none⟩) hb]; exact hcell0
          have hz0 := M.bs_size t
          have hz1 := H3.out k t hlt ht
          clear ht hcell0
          go_wp2_with fail
          exact ⟨⟨k + 1, by omega, by go_num⟩, by simp [intOf]; omega⟩
        · obtain rfl : k = j := by omega
          obtain ⟨b, off, rfl, hb, hcell0⟩ := HT2.out k tl H1.out
          have hcell : w1.cell? ⟨b, off + k, none⟩ = some (.string (M.bs tl)) := by rw [HB.cell (by rw [HSZ.out]; omega), HW2.out.cell (p := ⟨b, off + k, none⟩) hb]; exact hcell0
          have hz0 := M.bs_size tl
          clear hcell0
          go_wp2_with fail
          go_ret
          exact ⟨rfl, Below.trans HW2.out (Below.mono HB (by rw [HSZ.out]; omega))⟩

set_option maxHeartbeats 4000000 in
theorem sapApart_walk (na nb cut : Int) (a1 a2 : Option Addr) (c1 c2 : Nat) (la lb : List (List UInt8)) (w : World) (hna : -9223372036854775808 ≤ na ∧ na < 9223372036854775808) (hnb : -9223372036854775808 ≤ nb ∧ nb < 9223372036854775808)
    (hn1 : la.length ≤ 40) (hn2 : lb.length ≤ 40)
    (hT1 : ∀ i t, la[i]? = some t → ∃ b off, a1 = some ⟨b, off, none⟩ ∧ b < w.heap.size ∧ w.cell? ⟨b, off + i, none⟩ = some (.string (M.bs t)))
    (hT2 : ∀ i t, lb[i]? = some t → ∃ b off, a2 = some ⟨b, off, none⟩ ∧ b < w.heap.size ∧ w.cell? ⟨b, off + i, none⟩ = some (.string (M.bs t)))
    (hv1 : Strs w.heap.size w (.slice a1 la.length c1) la) (hv2 : Strs w.heap.size w (.slice a2 lb.length c2) lb) (hall1 : ∀ t ∈ la, t.length ≤ 1024) (hall2 : ∀ t ∈ lb, t.length ≤ 1024) :
    Calls Try.prog 7 #[.agg #[.int .i64 na, .slice a1 la.length c1], .agg #[.int .i64 nb, .slice a2 lb.length c2], .int .i64 cut] w fun e w' => e = .returned (.bool true) ∧ Below w.heap.size w w' := by
  have HT1 : Hid (∀ i t, la[i]? = some t → ∃ b off, a1 = some ⟨b, off, none⟩ ∧ b < w.heap.size ∧ w.cell? ⟨b, off + i, none⟩ = some (.string (M.bs t))) := hT1
  have HT2 : Hid (∀ i t, lb[i]? = some t → ∃ b off, a2 = some ⟨b, off, none⟩ ∧ b < w.heap.size ∧ w.cell? ⟨b, off + i, none⟩ = some (.string (M.bs t))) := hT2
  have HV1 : Hid (Strs w.heap.size w (.slice a1 la.length c1) la) := hv1
  have HV2 : Hid (Strs w.heap.size w (.slice a2 lb.length c2) lb) := hv2
  have HALL1 : Hid (∀ t ∈ la, t.length ≤ 1024) := hall1
  have HALL2 : Hid (∀ t ∈ lb, t.length ≤ 1024) := hall2
  clear hT1 hT2 hv1 hv2 hall1 hall2
  go_enter Try.func7, Try.ntmps7
  go_wp2_with (go_at_call 9; refine (awake_b (Bl.refl _)).mono ?_)
  rintro e w1 ⟨rfl, HB0⟩
  obtain ⟨W2, HB, hbw, hsz2, hc0, hc1, hc2, hc3⟩ := box2 _ _ _ _ _ _ _ HB0
  clear HB0
  have HW2 : Hid (Below w.heap.size w W2) := hbw
  have HSZ : Hid (W2.heap.size = w.heap.size + 2) := hsz2
  clear hbw hsz2
  go_wp2_with fail
  go_loop [7] (fun u7 => ∃ k : Nat, k ≤ la.length ∧ u7 = .int .i64 k) (fun u7 => la.length - (intOf u7).toNat)
  case atStart => exact ⟨0, Nat.zero_le _, rfl⟩
  case round =>
    obtain ⟨k, hk, rfl⟩ := hrel
    by_cases hlt : k < la.length
    · obtain ⟨t, ht⟩ : ∃ t, la[k]? = some t := ⟨la[k], List.getElem?_eq_getElem hlt⟩
      obtain ⟨b, off, rfl, hb, hcell0⟩ := HT1.out k t ht
      have hcell : w1.cell? ⟨b, off + k, none⟩ = some (.string (M.bs t)) := by rw [HB.cell (by rw [HSZ.out]; omega), HW2.out.cell (p := ⟨b, off + k, none⟩) hb]; exact hcell0
      have hz0 := M.bs_size t
      have hz1 := HALL1.out t (mem_of ht)
      clear ht hcell0
      go_wp2_with fail
      exact ⟨⟨k + 1, by omega, by go_num⟩, by simp [intOf]; omega⟩
    · obtain rfl : k = la.length := by omega
      clear hk hlt
      go_wp2_with fail
      go_loop [8] (fun u8 => ∃ k : Nat, k ≤ lb.length ∧ u8 = .int .i64 k) (fun u8 => lb.length - (intOf u8).toNat)
      case atStart => exact ⟨0, Nat.zero_le _, rfl⟩
      case round =>
        obtain ⟨k, hk, rfl⟩ := hrel
        by_cases hlt : k < lb.length
        · obtain ⟨t, ht⟩ : ∃ t, lb[k]? = some t := ⟨lb[k], List.getElem?_eq_getElem hlt⟩
          obtain ⟨b, off, rfl, hb, hcell0⟩ := HT2.out k t ht
          have hcell : w1.cell? ⟨b, off + k, none⟩ = some (.string (M.bs t)) := by rw [HB.cell (by rw [HSZ.out]; omega), HW2.out.cell (p := ⟨b, off + k, none⟩) hb]; exact hcell0
          have hz0 := M.bs_size t
          have hz1 := HALL2.out t (mem_of ht)
          clear ht hcell0
          go_wp2_with fail
          exact ⟨⟨k + 1, by omega, by go_num⟩, by simp [intOf]; omega⟩
        · obtain rfl : k = lb.length := by omega
          clear hk hlt HT1 HT2
          have HS1 : Hid (Strs W2.heap.size W2 (.slice a1 la.length c1) la) := HV1.out.below HW2.out (by rw [HSZ.out]; omega)
          have HS2 : Hid (Strs W2.heap.size W2 (.slice a2 lb.length c2) lb) := HV2.out.below HW2.out (by rw [HSZ.out]; omega)
          clear HV1 HV2
          have hz1 := M.bs_size (M.numB na)
          have hz2 := M.bs_size (M.numB nb)
          have hz3 := M.bs_size (M.rowB la)
          have hz4 := M.bs_size (M.rowB lb)
          have hl1 := M.numB_len na
          have hl2 := M.numB_len nb
          have hl3 : (M.rowB la).length ≤ 100000 := by have := rowB_le la 1024 HALL1.out; omega
          have hl4 : (M.rowB lb).length ≤ 100000 := by have := rowB_le lb 1024 HALL2.out; omega
          obtain ⟨k1, hk1⟩ : ∃ k1, k1 = min (M.numB na).length (M.numB nb).length := ⟨_, rfl⟩
          obtain ⟨k2, hk2⟩ : ∃ k2, k2 = min (M.rowB la).length (M.rowB lb).length := ⟨_, rfl⟩
          have hmin1 : min ((M.numB na).length : Int) ((M.numB nb).length : Int) = (k1 : Int) := by omega
          have hmin2 : min ((M.rowB la).length : Int) ((M.rowB lb).length : Int) = (k2 : Int) := by omega
          have hb1 : k1 ≤ (M.numB na).length := by omega
          have hb2 : k1 ≤ (M.numB nb).length := by omega
          have hb3 : k2 ≤ (M.rowB la).length := by omega
          have hb4 : k2 ≤ (M.rowB lb).length := by omega
          have hx1 : (M.bs (M.numB na)).extract 0 k1 = M.bs ((M.numB na).take k1) := by rw [extract_bs]; rfl
          have hx2 : (M.bs (M.numB nb)).extract 0 k1 = M.bs ((M.numB nb).take k1) := by rw [extract_bs]; rfl
          have hx3 : (M.bs (M.rowB la)).extract 0 k2 = M.bs ((M.rowB la).take k2) := by rw [extract_bs]; rfl
          have hx4 : (M.bs (M.rowB lb)).extract 0 k2 = M.bs ((M.rowB lb).take k2) := by rw [extract_bs]; rfl
          obtain ⟨q1, hq1, hq1'⟩ : ∃ q1 : Bool, (na == nb) = q1 ∧ ((M.bs ((M.numB na).take k1)).toList == (M.bs ((M.numB nb).take k1)).toList) = q1 := ⟨_, rfl, by
            rw [Lib.toList_data, Lib.toList_data, M.bs_toList, M.bs_toList, hk1]; exact num_apart na nb hna.1 hna.2 hnb.1 hnb.2⟩
          obtain ⟨q2, hq2, hq2'⟩ : ∃ q2 : Bool, decide (la = lb) = q2 ∧ ((M.bs ((M.rowB la).take k2)).toList == (M.bs ((M.rowB lb).take k2)).toList) = q2 := ⟨_, rfl, by
            rw [Lib.toList_data, Lib.toList_data, M.bs_toList, M.bs_toList, hk2]; exact row_apart la lb (by omega) (by omega) (fun t ht => by have := HALL1.out t ht; omega) (fun t ht => by have := HALL2.out t ht; omega)⟩
          have CS : Hid (∀ W, Bl W2 W → Calls Try.prog 22 #[.slice a1 la.length c1, .slice a2 lb.length c2] W fun e w' => e = .returned (.bool q2) ∧ ∃ n, w' = W.drewN n) := fun W h => by
            have := same_any _ _ la lb _ _ W (HS1.out.bl h) (HS2.out.bl h) (by omega)
            rwa [hq2] at this
          clear hk1 hk2 hq2
          go_wp2_with (go_at_call 10; refine (num_b _ HB (by omega) (by omega)).mono ?_; clear HB; rintro e w' ⟨rfl, HB⟩)
          go_quiet (fail)
          have HB2 := HB.drewN nq
          clear HB
          have HB := HB2
          clear HB2
          go_wp2_with (first
            | (go_at_call_of 14 (Value.slice a1 la.length c1); refine (row_b _ la HB (HS1.out.bl HB) (by omega) (by omega)).mono ?_; clear HB; rintro e w' ⟨rfl, HB⟩)
            | (go_at_call_of 14 (Value.slice a2 lb.length c2); refine (row_b _ lb HB (HS2.out.bl HB) (by omega) (by omega)).mono ?_; clear HB; rintro e w' ⟨rfl, HB⟩))
          go_quiet ((go_at_call 22; exact Calls.quiet_of (CS.out _ (HB.drewN _))))
          have HB2 := HB.drewN nq
          clear HB
          have HB := HB2
          clear HB2 hc0 hc1 hc2 hc3 hmin1 hmin2 hx1 hx2 hx3 hx4 hq1 hq1' hq2' CS
          have hp1 : 0 < (M.numB na).length := by rw [M.numB_length]; omega
          have hp2 : 0 < (M.rowB la).length := by have := rowB_ge la; omega
          obtain ⟨j1, hj1, hj1'⟩ := cutAt cut (M.numB na).length hp1 (by omega)
          obtain ⟨j2, hj2, hj2'⟩ := cutAt cut (M.rowB la).length hp2 (by omega)
          have hne1 : ¬ M.numB na = [] := by intro e; rw [e] at hp1; simp at hp1
          have hne2 : ¬ M.rowB la = [] := by intro e; rw [e] at hp2; simp at hp2
          have hx1 : (M.bs (M.numB na)).extract 0 j1 = M.bs ((M.numB na).take j1) := by rw [extract_bs]; rfl
          have hx2 : (M.bs (M.rowB la)).extract 0 j2 = M.bs ((M.rowB la).take j2) := by rw [extract_bs]; rfl
          have CN : Hid (∀ W, Bl W2 W → Calls Try.prog 16 #[.string (M.bs ((M.numB na).take j1))] W fun e w' => e = .returned (.tuple #[.int .i64 0, .string ⟨#[]⟩, .bool false]) ∧ Bl W2 w') := fun W h => by
            have := readNum_b ((M.numB na).take j1) (by unfold maxLen; rw [List.length_take]; omega) h
            rwa [num_cut na hna.1 hna.2 j1 hj1'] at this
          have CR : Hid (∀ W, Bl W2 W → Calls Try.prog 20 #[.string (M.bs ((M.rowB la).take j2)), .int .i64 40] W fun e w' => e = .returned (.tuple #[.slice none 0 0, .string ⟨#[]⟩, .bool false]) ∧ Bl W2 w') := fun W h =>
            readRow_none _ 40 (by rw [List.length_take]; omega) (Or.inl (by omega)) (row_cut la hn1 HALL1.out j2 hj2') h
          go_wp2_with (first
            | (go_at_call 16; refine (CN.out _ HB).mono ?_; clear HB CN; rintro e w' ⟨rfl, HB⟩)
            | (go_at_call 20; refine (CR.out _ HB).mono ?_; clear HB CR; rintro e w' ⟨rfl, HB⟩))
          go_ret
          exact ⟨rfl, Below.trans HW2.out (Below.mono HB (by rw [HSZ.out]; omega))⟩

end Go.Proofs.Ytfpeohlfofcbjaa
