/- SapNests' walk: rows within rows are read as they were. -/
import Derived.Test.YtfpeohlfofcbjabArgs
namespace Go.Proofs.Ytfpeohlfofcbjab
open Go.RowKit
set_option linter.unusedVariables false

/-- a row within rows, so deep -/
def nest (l : List (List UInt8)) : Nat → List UInt8
  | 0 => M.rowB l
  | d + 1 => M.rowB [[120], nest l d]
/-- what stands behind a row, k deep; what is asked for there -/
def tl (more : List UInt8) : Nat → List UInt8
  | 0 => more
  | _ + 1 => []
def mo (more : List UInt8) (n k : Nat) : List UInt8 := if k = n ∧ 0 < n then [] else more
def g5 (l : List (List UInt8)) (more : List UInt8) (n k : Nat) : List UInt8 := nest l (n - k) ++ tl more k
theorem mo_start (more : List UInt8) (n : Nat) : mo more n 0 = more := by unfold mo; rw [if_neg (by omega)]
theorem mo_lt (more : List UInt8) (n k : Nat) (h : k < n) : mo more n k = more := by unfold mo; rw [if_neg (by omega)]
theorem mo_zero (more : List UInt8) (n : Nat) (h : n = 0) : mo more n n = more := by unfold mo; rw [if_neg (by omega)]
theorem mo_all (more : List UInt8) (n : Nat) (h : 0 < n) : mo more n n = [] := by unfold mo; rw [if_pos ⟨rfl, h⟩]
theorem tl_pos (more : List UInt8) (k : Nat) (h : 0 < k) : tl more k = [] := by
  cases k with
  | zero => omega
  | succ k => rfl
theorem tl_mo (more : List UInt8) (n : Nat) : tl more n = mo more n n := by
  by_cases h : 0 < n
  · rw [mo_all more n h, tl_pos more n h]
  · obtain rfl : n = 0 := by omega
    rw [mo_zero more 0 rfl]; rfl
theorem rowB_two (y : List UInt8) : (M.rowB [[120], y]).length ≤ y.length + 30 := by
  have h1 := M.numB_len ((1 + 1 : Nat) : Int)
  have h2 := M.numB_len ((1 : Nat) : Int)
  have h3 := M.numB_len (y.length : Int)
  simp only [M.rowB, M.textsB, List.map_cons, List.map_nil, List.flatten_cons, List.flatten_nil, M.textB, List.length_append, List.length_cons, List.length_nil]
  simp only [Nat.zero_add] at *
  omega
theorem nest_len (l : List (List UInt8)) (h1 : l.length ≤ 40) (h : ∀ t ∈ l, t.length ≤ 1024) (d : Nat) : (nest l d).length ≤ 50000 + d * 30 := by
  induction d with
  | zero =>
    have := rowB_le l 1024 h
    simp only [nest]
    omega
  | succ d ih =>
    have := rowB_two (nest l d)
    simp only [nest]
    omega

theorem readRow_two (y r : List UInt8) (hy : y.length ≤ 100000) (hr : r.length ≤ 140737488355328) {w0 w : World} (h : Bl w0 w) :
    Calls Try.prog 6 #[.string (M.bs (M.rowB [[120], y] ++ r)), .int .i64 2] w fun e w' => ∃ b off c, e = .returned (.tuple #[.slice (some ⟨b, off, none⟩) 2 c, .string (M.bs r), .bool true]) ∧ w'.cell? ⟨b, off, none⟩ = some (.string ⟨#[120]⟩) ∧ w'.cell? ⟨b, off + 1, none⟩ = some (.string (M.bs y)) ∧ Bl w0 w' := by
  have hl := rowB_two y
  have eR := M.readRow_rowB [[120], y] r 2 (by simp) (fun t ht => by
    simp only [List.mem_cons, List.not_mem_nil, or_false] at ht
    rcases ht with rfl | rfl
    · simp
    · omega) (by simp)
  refine (readRow_yes _ 2 (by rw [List.length_append]; omega) (Or.inl (by omega)) [[120], y] r eR h).mono ?_
  rintro e w' ⟨a, c, rfl, hs, hb⟩
  rcases strs_cases hs with ⟨h0, _⟩ | ⟨b, off, cap, e, _, hc⟩
  · simp at h0
  · simp only [Value.slice.injEq] at e
    obtain ⟨rfl, _, rfl⟩ := e
    exact ⟨b, off, c, rfl, hc 0 [120] rfl, hc 1 y rfl, hb⟩

theorem row_two (y : List UInt8) (c : Nat) (hy : y.length ≤ 100000) {w0 w : World} (h : Bl w0 w) :
    Calls Try.prog 5 #[.slice (some ⟨w.heap.size, 0, none⟩) 2 c] (w.alloc (.cells #[.string ⟨#[120]⟩, .string (M.bs y)] 9)) fun e w' => e = .returned (.string (M.bs (M.rowB [[120], y]))) ∧ Bl w0 w' := by
  have hl := rowB_two y
  refine row_b _ [[120], y] (h.alloc _) ?_ (by omega) (by simp)
  refine Or.inr ⟨w.heap.size, 0, c, rfl, by simp, ?_⟩
  intro i t ht
  have hc := World.cell?_alloc_mark w #[.string ⟨#[120]⟩, .string (M.bs y)] 9 (0, 0) i
  rw [Nat.zero_add, hc]
  match i, ht with
  | 0, ht => simp at ht; subst ht; rfl
  | 1, ht => simp at ht; subst ht; rfl
  | i + 2, ht => simp at ht

theorem deepAt (deep : Int) : ∃ j : Nat, wrap64 ((IntKind.u64.wrap deep).tmod 7) = (j : Int) ∧ j < 7 := by
  have h0 : 0 ≤ IntKind.u64.wrap deep := by simp only [IntKind.wrap, IntKind.bits, IntKind.signed]; simp; omega
  generalize IntKind.u64.wrap deep = u at h0
  rw [Int.tmod_eq_emod_of_nonneg h0]
  refine ⟨(u % 7).toNat, ?_, by omega⟩
  unfold wrap64
  omega

set_option maxHeartbeats 1000000 in
theorem sapNests_many (a : Option Addr) (n c : Nat) (deep : Int) (s : ByteArray) (w : World) (hm : n ≤ maxLen) (h : 40 < n) :
    Calls Try.prog 3 #[.slice a n c, .int .i64 deep, .string s] w fun e w' => e = .returned (.bool true) ∧ Below w.heap.size w w' := by
  have HB : Bl w w := Bl.refl w
  unfold maxLen at hm
  go_enter Try.func3, Try.ntmps3
  go_wp2_with (go_at_call 4; refine (awake_b HB).mono ?_; clear HB; rintro e w' ⟨rfl, HB⟩)
  go_ret
  exact ⟨rfl, HB⟩

set_option maxHeartbeats 1000000 in
theorem sapNests_long (a : Option Addr) (c : Nat) (l : List (List UInt8)) (deep : Int) (s : ByteArray) (w : World) (hn : l.length ≤ 40)
    (hT : ∀ i t, l[i]? = some t → ∃ b off, a = some ⟨b, off, none⟩ ∧ b < w.heap.size ∧ w.cell? ⟨b, off + i, none⟩ = some (.string (M.bs t)))
    (j : Nat) (tl : List UInt8) (h1 : l[j]? = some tl) (h2 : 1024 < tl.length) (h2m : tl.length ≤ maxLen) (h3 : ∀ i u, i < j → l[i]? = some u → u.length ≤ 1024) :
    Calls Try.prog 3 #[.slice a l.length c, .int .i64 deep, .string s] w fun e w' => e = .returned (.bool true) ∧ Below w.heap.size w w' := by
  have HB : Bl w w := Bl.refl w
  have hjl : j < l.length := (List.getElem?_eq_some_iff.1 h1).1
  have HT : Hid (∀ i t, l[i]? = some t → ∃ b off, a = some ⟨b, off, none⟩ ∧ b < w.heap.size ∧ w.cell? ⟨b, off + i, none⟩ = some (.string (M.bs t))) := hT
  have H1 : Hid (l[j]? = some tl) := h1
  have H3 : Hid (∀ i u, i < j → l[i]? = some u → u.length ≤ 1024) := h3
  unfold maxLen at h2m
  clear hT h1 h3
  go_enter Try.func3, Try.ntmps3
  go_wp2_with (go_at_call 4; refine (awake_b HB).mono ?_; clear HB; rintro e w1 ⟨rfl, HB⟩)
  go_loop [7] (fun u7 => ∃ k : Nat, k ≤ j ∧ u7 = .int .i64 k) (fun u7 => j - (intOf u7).toNat)
  case atStart => exact ⟨0, Nat.zero_le _, rfl⟩
  case round =>
    obtain ⟨k, hk, rfl⟩ := hrel
    by_cases hlt : k < j
    · obtain ⟨t, ht⟩ : ∃ t, l[k]? = some t := ⟨l[k]'(by omega), List.getElem?_eq_getElem _⟩
      obtain ⟨b, off, rfl, hb, hcell0⟩ := HT.out k t ht
      have hcell : w1.cell? ⟨b, off + k, none⟩ = some (.string (M.bs t)) := by rw [HB.cell hb]; exact hcell0
      have htl := H3.out k t hlt ht
      have hbs := M.bs_size t
      clear ht hcell0
      go_wp2_with fail
      exact ⟨⟨k + 1, by omega, by go_num⟩, by simp [intOf]; omega⟩
    · obtain rfl : k = j := by omega
      obtain ⟨b, off, rfl, hb, hcell0⟩ := HT.out k tl H1.out
      have hcell : w1.cell? ⟨b, off + k, none⟩ = some (.string (M.bs tl)) := by rw [HB.cell hb]; exact hcell0
      have hbs := M.bs_size tl
      clear hcell0
      go_wp2_with fail
      go_ret
      exact ⟨rfl, HB⟩

set_option maxHeartbeats 4000000 in
theorem sapNests_walk (a : Option Addr) (c : Nat) (l : List (List UInt8)) (deep : Int) (more : List UInt8) (w : World) (hn : l.length ≤ 40) (hmo : more.length ≤ 140737488355328)
    (hT : ∀ i t, l[i]? = some t → ∃ b off, a = some ⟨b, off, none⟩ ∧ b < w.heap.size ∧ w.cell? ⟨b, off + i, none⟩ = some (.string (M.bs t)))
    (hv : Strs w.heap.size w (.slice a l.length c) l) (hall : ∀ t ∈ l, t.length ≤ 1024) :
    Calls Try.prog 3 #[.slice a l.length c, .int .i64 deep, .string (M.bs more)] w fun e w' => e = .returned (.bool true) ∧ Below w.heap.size w w' := by
  have HB : Bl w w := Bl.refl w
  have HT : Hid (∀ i t, l[i]? = some t → ∃ b off, a = some ⟨b, off, none⟩ ∧ b < w.heap.size ∧ w.cell? ⟨b, off + i, none⟩ = some (.string (M.bs t))) := hT
  have HV : Hid (Strs w.heap.size w (.slice a l.length c) l) := hv
  have HALL : Hid (∀ t ∈ l, t.length ≤ 1024) := hall
  clear hT hv hall
  obtain ⟨n, hn7, hnl⟩ := deepAt deep
  go_enter Try.func3, Try.ntmps3
  go_wp2_with (go_at_call 4; refine (awake_b HB).mono ?_; clear HB; rintro e w1 ⟨rfl, HB⟩)
  go_loop [7] (fun u7 => ∃ k : Nat, k ≤ l.length ∧ u7 = .int .i64 k) (fun u7 => l.length - (intOf u7).toNat)
  case atStart => exact ⟨0, Nat.zero_le _, rfl⟩
  case round =>
    obtain ⟨k, hk, rfl⟩ := hrel
    by_cases hlt : k < l.length
    · obtain ⟨t, ht⟩ : ∃ t, l[k]? = some t := ⟨l[k], List.getElem?_eq_getElem hlt⟩
      obtain ⟨b, off, rfl, hb, hcell0⟩ := HT.out k t ht
      have hcell : w1.cell? ⟨b, off + k, none⟩ = some (.string (M.bs t)) := by rw [HB.cell hb]; exact hcell0
      have hz0 := M.bs_size t
      have hz1 := HALL.out t (mem_of ht)
      clear ht hcell0
      go_wp2_with fail
      exact ⟨⟨k + 1, by omega, by go_num⟩, by simp [intOf]; omega⟩
    · obtain rfl : k = l.length := by omega
      clear hk hlt HT
      have hl2 : (M.rowB l).length ≤ 100000 := by have := rowB_le l 1024 HALL.out; omega
      go_wp2_with (go_at_call 5; refine (row_c _ l HB HV.out (by omega) (by omega)).mono ?_; clear HB; rintro e w2 ⟨rfl, HB⟩)
      go_loopw [9, 10] (fun u9 u10 wr => ∃ k : Nat, k ≤ n ∧ u10 = .int .i64 k ∧ u9 = .string (M.bs (nest l k)) ∧ Bl w wr) (fun _ u10 _ => n - (intOf u10).toNat)
      case atStart => exact ⟨0, Nat.zero_le _, rfl, rfl, HB⟩
      case round =>
        obtain ⟨k, hk, rfl, rfl, hbl⟩ := hrel
        clear HB
        have hnk := nest_len l hn HALL.out k
        by_cases hlt : k < n
        · go_wp2_with (go_at_call 5; refine (row_two _ _ (by omega) hbl).mono ?_; clear hbl; rintro e w2 ⟨rfl, hbl⟩)
          exact ⟨⟨k + 1, by omega, by go_num, rfl, hbl⟩, by simp [intOf]; omega⟩
        · obtain rfl : k = n := by omega
          clear hk hlt
          have happ : M.bs (nest l k) ++ M.bs more = M.bs (g5 l more k 0) := by rw [bs_append]; rfl
          have hz1 := M.bs_size (nest l k)
          have hz2 := M.bs_size more
          go_wp2_with fail
          clear happ hz1
          go_loopw [2, 9, 11] (fun u2 u9 u11 wr => ∃ q : Nat, q ≤ k ∧ u11 = .int .i64 q ∧ u9 = .string (M.bs (g5 l more k q)) ∧ u2 = .string (M.bs (mo more k q)) ∧ Bl w wr) (fun _ _ u11 _ => k - (intOf u11).toNat)
          case atStart => exact ⟨0, Nat.zero_le _, rfl, rfl, by rw [mo_start], hbl⟩
          case round =>
            obtain ⟨q, hq, rfl, rfl, rfl, hbl⟩ := hrel
            by_cases hlt : q < k
            · obtain ⟨d, hd⟩ : ∃ d, k - q = d + 1 := ⟨k - q - 1, by omega⟩
              have hnd := nest_len l hn HALL.out d
              have htl : (tl more q).length ≤ 140737488355328 := by cases q with
                | zero => exact hmo
                | succ q => simp [tl]
              have er : g5 l more k q = M.rowB [[120], nest l d] ++ tl more q := by unfold g5; rw [hd]; rfl
              have es : g5 l more k (q + 1) = nest l d := by unfold g5; rw [show k - (q + 1) = d by omega]; simp [tl]
              have CR : Hid (∀ W, Bl w W → Calls Try.prog 6 #[.string (M.bs (g5 l more k q)), .int .i64 2] W fun e w' => ∃ b off c, e = .returned (.tuple #[.slice (some ⟨b, off, none⟩) 2 c, .string (M.bs (tl more q)), .bool true]) ∧ w'.cell? ⟨b, off, none⟩ = some (.string ⟨#[120]⟩) ∧ w'.cell? ⟨b, off + 1, none⟩ = some (.string (M.bs (nest l d))) ∧ Bl w w') := fun W h => by
                rw [er]; exact readRow_two (nest l d) (tl more q) (by omega) htl h
              have ES : Hid (g5 l more k (q + 1) = nest l d) := es
              have EM : Hid (q + 1 < k → mo more k (q + 1) = mo more k q) := fun h => by rw [mo_lt more k q hlt, mo_lt more k (q + 1) h]
              have EN : Hid (q + 1 = k → mo more k (q + 1) = []) := fun h => by rw [h]; exact mo_all more k (by omega)
              clear er es hd
              have hrest : (q = 0 ∧ tl more q = mo more k q) ∨ (0 < q ∧ tl more q = []) := by
                by_cases h : q = 0
                · left; refine ⟨h, ?_⟩; rw [mo_lt more k q hlt, h]; rfl
                · right; exact ⟨by omega, tl_pos more q (by omega)⟩
              have hlast : (((q : Int) == (k : Int) - 1) = true ∧ q + 1 = k) ∨ (((q : Int) == (k : Int) - 1) = false ∧ q + 1 < k) := by
                by_cases h : q + 1 = k
                · left; exact ⟨beq_iff_eq.2 (by omega), h⟩
                · right; exact ⟨beq_eq_false_iff_ne.2 (by omega), by omega⟩
              rcases hrest with ⟨hq0, htm⟩ | ⟨hq0, htm⟩
              all_goals
                rcases hlast with ⟨hq1, hq2⟩ | ⟨hq1, hq2⟩
              · have hb1 : ((q : Int) == 0) = true := beq_iff_eq.2 (by omega)
                have hb2 : ¬ 0 < q := by omega
                clear hq0
                have HQ2 : Hid (q + 1 = k) := hq2
                clear hq2
                go_wp2_with (go_at_call 6; refine (CR.out _ hbl).mono ?_; clear hbl CR; rintro e w3 ⟨b, off, c3, rfl, hc0, hc1, hbl⟩)
                exact ⟨⟨q + 1, by omega, by go_num, by rw [ES.out], by rw [EN.out HQ2.out]; rfl, hbl⟩, by simp [intOf]; omega⟩
              · have hb1 : ((q : Int) == 0) = true := beq_iff_eq.2 (by omega)
                have hb2 : ¬ 0 < q := by omega
                clear hq0
                have HQ2 : Hid (q + 1 < k) := hq2
                clear hq2
                go_wp2_with (go_at_call 6; refine (CR.out _ hbl).mono ?_; clear hbl CR; rintro e w3 ⟨b, off, c3, rfl, hc0, hc1, hbl⟩)
                exact ⟨⟨q + 1, by omega, by go_num, by rw [ES.out], by rw [EM.out HQ2.out], hbl⟩, by simp [intOf]; omega⟩
              · have hb1 : ((q : Int) == 0) = false := beq_eq_false_iff_ne.2 (by omega)
                have hbn : M.bs [] = ⟨#[]⟩ := rfl
                have HQ2 : Hid (q + 1 = k) := hq2
                clear hq2
                go_wp2_with (go_at_call 6; refine (CR.out _ hbl).mono ?_; clear hbl CR; rintro e w3 ⟨b, off, c3, rfl, hc0, hc1, hbl⟩)
                exact ⟨⟨q + 1, by omega, by go_num, by rw [ES.out], by rw [EN.out HQ2.out]; rfl, hbl⟩, by simp [intOf]; omega⟩
              · have hb1 : ((q : Int) == 0) = false := beq_eq_false_iff_ne.2 (by omega)
                have hbn : M.bs [] = ⟨#[]⟩ := rfl
                have HQ2 : Hid (q + 1 < k) := hq2
                clear hq2
                go_wp2_with (go_at_call 6; refine (CR.out _ hbl).mono ?_; clear hbl CR; rintro e w3 ⟨b, off, c3, rfl, hc0, hc1, hbl⟩)
                exact ⟨⟨q + 1, by omega, by go_num, by rw [ES.out], by rw [EM.out HQ2.out], hbl⟩, by simp [intOf]; omega⟩
            · obtain rfl : q = k := by omega
              clear hq hlt
              have eg : g5 l more q q = M.rowB l ++ tl more q := by unfold g5; rw [Nat.sub_self]; rfl
              have htl : (tl more q).length ≤ 140737488355328 := by cases q with
                | zero => exact hmo
                | succ q => simp [tl]
              have CR : Hid (∀ W, Bl w W → Calls Try.prog 6 #[.string (M.bs (g5 l more q q)), .int .i64 40] W fun e w' => ∃ a3 c3, e = .returned (.tuple #[.slice a3 l.length c3, .string (M.bs (mo more q q)), .bool true]) ∧ Strs w'.heap.size w' (.slice a3 l.length c3) l ∧ Bl w w') := fun W h => by
                rw [← tl_mo, eg]
                exact readRow_yes _ 40 (by rw [List.length_append]; omega) (Or.inl (by omega)) l (tl more q) (M.readRow_rowB l _ 40 (by omega) (fun t ht => by have := HALL.out t ht; omega) (by omega)) h
              clear eg htl
              go_wp2_with (first
                | (go_at_call 6; refine (CR.out _ hbl).mono ?_; clear hbl CR; rintro e w' ⟨a3, c3, rfl, HS, hbl⟩)
                | (go_at_call 7; refine (same_b _ _ l l _ _ hbl HS (HV.out.bl hbl) (by omega)).mono ?_; clear HS hbl; rintro e w' ⟨rfl, hbl⟩))
              go_ret
              exact ⟨by first | rfl | (simp; done), hbl⟩

end Go.Proofs.Ytfpeohlfofcbjab
