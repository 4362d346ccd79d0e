/- SapMost's walk. -/
import Derived.Test.YtfpeohlfofcbjaaW9
import Derived.Test.YtfpeohlfofcbjaaRows
namespace Go.Proofs.Ytfpeohlfofcbjaa
open Go.RowKit
set_option linter.unusedVariables false

set_option maxHeartbeats 1000000 in
theorem sapMost_many (s : List UInt8) (a : Option Addr) (n c : Nat) (most : Int) (w : World) (hs : s.length ≤ maxLen) (hn : n ≤ maxLen) (h : 1024 < s.length ∨ (s.length ≤ 1024 ∧ 60 < n)) :
    Calls Try.prog 8 #[.string (M.bs s), .slice a n c, .int .i64 most] w fun e w' => e = .returned (.bool true) ∧ Below w.heap.size w w' := by
  have HB : Bl w w := Bl.refl w
  have hsz := M.bs_size s
  unfold maxLen at hs hn
  rcases h with h | ⟨h, h'⟩
  all_goals
    go_enter Try.func8, Try.ntmps8
    go_wp2_with (go_at_call 9; refine (awake_b HB).mono ?_; clear HB; rintro e w' ⟨rfl, HB⟩)
    go_ret
    exact ⟨rfl, HB⟩

set_option maxHeartbeats 1000000 in
theorem sapMost_long (s : List UInt8) (b off cap : Nat) (l : List (List UInt8)) (most : Int) (w : World) (hs : s.length ≤ 1024) (hn : l.length ≤ 60) (hb : b < w.heap.size) (hc : ∀ i t, l[i]? = some t → w.cell? ⟨b, off + i, none⟩ = some (.string (M.bs t)))
    (j : Nat) (tl : List UInt8) (h1 : l[j]? = some tl) (h2 : 1024 < tl.length) (h2m : tl.length ≤ maxLen) (h3 : ∀ i u, i < j → l[i]? = some u → u.length ≤ 1024) :
    Calls Try.prog 8 #[.string (M.bs s), .slice (some ⟨b, off, none⟩) l.length cap, .int .i64 most] w fun e w' => e = .returned (.bool true) ∧ Below w.heap.size w w' := by
  have HB : Bl w w := Bl.refl w
  have hsz := M.bs_size s
  unfold maxLen at h2m
  have hjl : j < l.length := (List.getElem?_eq_some_iff.1 h1).1
  have Hc : Hid (∀ i t, l[i]? = some t → w.cell? ⟨b, off + i, none⟩ = some (.string (M.bs t))) := hc
  have H1 : Hid (l[j]? = some tl) := h1
  have H3 : Hid (∀ i u, i < j → l[i]? = some u → u.length ≤ 1024) := h3
  clear hc h1 h3
  go_enter Try.func8, Try.ntmps8
  go_wp2_with (go_at_call 9; refine (awake_b HB).mono ?_; clear HB; rintro e w1 ⟨rfl, HB⟩)
  go_loop [7] (fun u7 => ∃ k : Nat, k ≤ j ∧ u7 = .int .i64 k) (fun u7 => j - (intOf u7).toNat)
  case atStart => exact ⟨0, Nat.zero_le _, rfl⟩
  case round =>
    obtain ⟨k, hk, rfl⟩ := hrel
    by_cases hlt : k < j
    · obtain ⟨t, ht⟩ : ∃ t, l[k]? = some t := ⟨l[k]'(by omega), List.getElem?_eq_getElem _⟩
      have hcell : w1.cell? ⟨b, off + k, none⟩ = some (.string (M.bs t)) := by rw [HB.cell hb]; exact Hc.out k t ht
      have htl := H3.out k t hlt ht
      have hbs := M.bs_size t
      clear ht
      go_wp2
      exact ⟨⟨k + 1, by omega, by go_num⟩, by simp [intOf]; omega⟩
    · obtain rfl : k = j := by omega
      have hcell : w1.cell? ⟨b, off + k, none⟩ = some (.string (M.bs tl)) := by rw [HB.cell hb]; exact Hc.out k tl H1.out
      have hbs := M.bs_size tl
      go_wp2
      go_ret
      exact ⟨rfl, HB⟩

set_option maxHeartbeats 4000000 in
theorem sapMost_nil (s : List UInt8) (a : Option Addr) (c : Nat) (most : Int) (w : World) (hs : s.length ≤ 1024) :
    Calls Try.prog 8 #[.string (M.bs s), (.slice a 0 c), .int .i64 most] w fun e w' => e = .returned (.bool true) ∧ Below w.heap.size w w' := by
  have HB : Bl w w := Bl.refl w
  have hsz := M.bs_size s
  have htl : (M.textB s).length ≤ 1033 := by have := M.numB_len (s.length : Int); unfold M.textB; rw [List.length_append]; omega
  have hzT := M.bs_size (M.textB s)
  have CT : Hid (∀ W, Bl w W → Calls Try.prog 18 #[.string (M.bs (M.textB s)), .int .i64 most] W fun e w' => e = .returned (rtV (M.readText (M.textB s) most)) ∧ Bl w w') := fun W h => readText_b (M.textB s) most (by unfold maxLen; omega) h
  have hrl : (M.rowB []).length ≤ 100 := by decide +kernel
  have hv : Strs w.heap.size w (.slice a 0 c) [] := Or.inl ⟨rfl, a, c, rfl⟩
  have CW : Hid (∀ W, Bl w W → Calls Try.prog 14 #[(.slice a 0 c)] W fun e w' => e = .returned (.string (M.bs (M.rowB ([] : List (List UInt8))))) ∧ Bl w w') := fun W h => row_c _ ([] : List (List UInt8)) h hv (by omega) (by simp)
  have CS : Hid (∀ W a2 c2, Bl w W → Strs W.heap.size W (.slice a2 0 c2) ([] : List (List UInt8)) → Calls Try.prog 22 #[(.slice a 0 c), .slice a2 0 c2] W fun e w' => e = .returned (.bool true) ∧ Bl w w') := fun W a2 c2 h h2 => by
    refine (same_b _ _ ([] : List (List UInt8)) ([] : List (List UInt8)) _ _ h (hv.bl h) h2 (by simp)).mono ?_
    rintro e w' ⟨rfl, h3⟩
    exact ⟨by simp, h3⟩
  clear hv
  have CR : Hid (((0 : Int) ≤ most → ∀ W, Bl w W → Calls Try.prog 20 #[.string (M.bs (M.rowB ([] : List (List UInt8)))), .int .i64 most] W fun e w' => ∃ a2 c2, e = .returned (.tuple #[.slice a2 0 c2, .string (M.bs []), .bool true]) ∧ Strs w'.heap.size w' (.slice a2 0 c2) ([] : List (List UInt8)) ∧ Bl w w') ∧
      (most < (0 : Int) → ∀ W, Bl w W → Calls Try.prog 20 #[.string (M.bs (M.rowB ([] : List (List UInt8)))), .int .i64 most] W fun e w' => e = .returned (.tuple #[.slice none 0 0, .string ⟨#[]⟩, .bool false]) ∧ Bl w w')) := by
    refine ⟨fun hm W h => ?_, fun hm W h => ?_⟩
    · have eR := M.readRow_rowB ([] : List (List UInt8)) [] most (by simp) (fun t ht => by simp at ht) hm
      rw [List.append_nil] at eR
      exact readRow_yes (M.rowB ([] : List (List UInt8))) most (by omega) (Or.inr (by omega)) ([] : List (List UInt8)) [] eR h
    · have eR := M.readRow_many ([] : List (List UInt8)) [] most (by simp) hm
      rw [List.append_nil] at eR
      exact readRow_none (M.rowB ([] : List (List UInt8))) most (by omega) (Or.inr (by omega)) eR h
  by_cases hm1 : (s.length : Int) ≤ most
  · have eT := M.readText_textB s [] most (by omega) hm1
    rw [List.append_nil] at eT
    rw [eT] at CT
    simp only [rtV] at CT
    clear eT
    have hd1 : decide ((s.length : Int) ≤ most) = true := decide_eq_true hm1
    by_cases hm2 : (0 : Int) ≤ most
    · replace CR : Hid _ := CR.out.1 hm2
      have hd2 : decide ((0 : Int) ≤ most) = true := decide_eq_true hm2
      go_enter Try.func8, Try.ntmps8
      go_wp2_with (go_at_call 9; refine (awake_b HB).mono ?_; clear HB; rintro e w1 ⟨rfl, HB⟩)
      go_loop [7] (fun u7 => u7 = .int .i64 0) (fun u7 => 0)
      case atStart => rfl
      case round =>
        subst hrel
        go_wp2_with (first
          | (go_at_call 12; refine (text_b _ HB (by omega)).mono ?_; clear HB; rintro e w' ⟨rfl, HB⟩)
          | (go_at_call 18; refine (CT.out _ HB).mono ?_; clear HB CT; rintro e w' ⟨rfl, HB⟩)
          | (go_at_call 14; refine (CW.out _ HB).mono ?_; clear HB CW; rintro e w' ⟨rfl, HB⟩)
          | (go_at_call 20; refine (CR.out _ HB).mono ?_; clear HB CR; first | rintro e w' ⟨rfl, HB⟩ | rintro e w' ⟨a2, c2, rfl, HS, HB⟩)
          | (go_at_call 22; refine (CS.out _ _ _ HB HS).mono ?_; clear HB HS; rintro e w' ⟨rfl, HB⟩))
        go_ret
        exact ⟨by first | rfl | (simp; done) | (simp; omega), HB⟩
    · exfalso; omega
  · have eT := M.readText_many s [] most (by omega) (by omega)
    rw [List.append_nil] at eT
    rw [eT] at CT
    simp only [rtV] at CT
    clear eT
    have hd1 : decide ((s.length : Int) ≤ most) = false := decide_eq_false hm1
    by_cases hm2 : (0 : Int) ≤ most
    · replace CR : Hid _ := CR.out.1 hm2
      have hd2 : decide ((0 : Int) ≤ most) = true := decide_eq_true hm2
      go_enter Try.func8, Try.ntmps8
      go_wp2_with (go_at_call 9; refine (awake_b HB).mono ?_; clear HB; rintro e w1 ⟨rfl, HB⟩)
      go_loop [7] (fun u7 => u7 = .int .i64 0) (fun u7 => 0)
      case atStart => rfl
      case round =>
        subst hrel
        go_wp2_with (first
          | (go_at_call 12; refine (text_b _ HB (by omega)).mono ?_; clear HB; rintro e w' ⟨rfl, HB⟩)
          | (go_at_call 18; refine (CT.out _ HB).mono ?_; clear HB CT; rintro e w' ⟨rfl, HB⟩)
          | (go_at_call 14; refine (CW.out _ HB).mono ?_; clear HB CW; rintro e w' ⟨rfl, HB⟩)
          | (go_at_call 20; refine (CR.out _ HB).mono ?_; clear HB CR; first | rintro e w' ⟨rfl, HB⟩ | rintro e w' ⟨a2, c2, rfl, HS, HB⟩)
          | (go_at_call 22; refine (CS.out _ _ _ HB HS).mono ?_; clear HB HS; rintro e w' ⟨rfl, HB⟩))
        go_ret
        exact ⟨by first | rfl | (simp; done) | (simp; omega), HB⟩
    · replace CR : Hid _ := CR.out.2 (by omega)
      have hd2 : decide ((0 : Int) ≤ most) = false := decide_eq_false hm2
      go_enter Try.func8, Try.ntmps8
      go_wp2_with (go_at_call 9; refine (awake_b HB).mono ?_; clear HB; rintro e w1 ⟨rfl, HB⟩)
      go_loop [7] (fun u7 => u7 = .int .i64 0) (fun u7 => 0)
      case atStart => rfl
      case round =>
        subst hrel
        go_wp2_with (first
          | (go_at_call 12; refine (text_b _ HB (by omega)).mono ?_; clear HB; rintro e w' ⟨rfl, HB⟩)
          | (go_at_call 18; refine (CT.out _ HB).mono ?_; clear HB CT; rintro e w' ⟨rfl, HB⟩)
          | (go_at_call 14; refine (CW.out _ HB).mono ?_; clear HB CW; rintro e w' ⟨rfl, HB⟩)
          | (go_at_call 20; refine (CR.out _ HB).mono ?_; clear HB CR; first | rintro e w' ⟨rfl, HB⟩ | rintro e w' ⟨a2, c2, rfl, HS, HB⟩)
          | (go_at_call 22; refine (CS.out _ _ _ HB HS).mono ?_; clear HB HS; rintro e w' ⟨rfl, HB⟩))
        go_ret
        exact ⟨by first | rfl | (simp; done) | (simp; omega), HB⟩

set_option maxHeartbeats 4000000 in
theorem sapMost_ne (s : List UInt8) (b off cap : Nat) (l : List (List UInt8)) (most : Int) (w : World) (hs : s.length ≤ 1024) (hn : l.length ≤ 60) (hb : b < w.heap.size) (hc : ∀ i t, l[i]? = some t → w.cell? ⟨b, off + i, none⟩ = some (.string (M.bs t))) (hall : ∀ t ∈ l, t.length ≤ 1024) :
    Calls Try.prog 8 #[.string (M.bs s), (.slice (some ⟨b, off, none⟩) l.length cap), .int .i64 most] w fun e w' => e = .returned (.bool true) ∧ Below w.heap.size w w' := by
  have HB : Bl w w := Bl.refl w
  have hsz := M.bs_size s
  have htl : (M.textB s).length ≤ 1033 := by have := M.numB_len (s.length : Int); unfold M.textB; rw [List.length_append]; omega
  have hzT := M.bs_size (M.textB s)
  have CT : Hid (∀ W, Bl w W → Calls Try.prog 18 #[.string (M.bs (M.textB s)), .int .i64 most] W fun e w' => e = .returned (rtV (M.readText (M.textB s) most)) ∧ Bl w w') := fun W h => readText_b (M.textB s) most (by unfold maxLen; omega) h
  have hrl : (M.rowB l).length ≤ 100000 := by have := rowB_le l 1024 hall; omega
  have hv : Strs w.heap.size w (.slice (some ⟨b, off, none⟩) l.length cap) l := Or.inr ⟨b, off, cap, rfl, hb, hc⟩
  have CW : Hid (∀ W, Bl w W → Calls Try.prog 14 #[(.slice (some ⟨b, off, none⟩) l.length cap)] W fun e w' => e = .returned (.string (M.bs (M.rowB l))) ∧ Bl w w') := fun W h => row_c _ l h hv (by omega) (by omega)
  have CS : Hid (∀ W a2 c2, Bl w W → Strs W.heap.size W (.slice a2 l.length c2) l → Calls Try.prog 22 #[(.slice (some ⟨b, off, none⟩) l.length cap), .slice a2 l.length c2] W fun e w' => e = .returned (.bool true) ∧ Bl w w') := fun W a2 c2 h h2 => by
    refine (same_b _ _ l l _ _ h (hv.bl h) h2 (by omega)).mono ?_
    rintro e w' ⟨rfl, h3⟩
    exact ⟨by simp, h3⟩
  have Hc : Hid (∀ i t, l[i]? = some t → w.cell? ⟨b, off + i, none⟩ = some (.string (M.bs t))) := hc
  have HALL : Hid (∀ t ∈ l, t.length ≤ 1024) := hall
  clear hc hall
  clear hv
  have CR : Hid ((((l.length : Nat) : Int) ≤ most → ∀ W, Bl w W → Calls Try.prog 20 #[.string (M.bs (M.rowB l)), .int .i64 most] W fun e w' => ∃ a2 c2, e = .returned (.tuple #[.slice a2 l.length c2, .string (M.bs []), .bool true]) ∧ Strs w'.heap.size w' (.slice a2 l.length c2) l ∧ Bl w w') ∧
      (most < ((l.length : Nat) : Int) → ∀ W, Bl w W → Calls Try.prog 20 #[.string (M.bs (M.rowB l)), .int .i64 most] W fun e w' => e = .returned (.tuple #[.slice none 0 0, .string ⟨#[]⟩, .bool false]) ∧ Bl w w')) := by
    refine ⟨fun hm W h => ?_, fun hm W h => ?_⟩
    · have eR := M.readRow_rowB l [] most (by omega) (fun t ht => by have := HALL.out t ht; omega) hm
      rw [List.append_nil] at eR
      exact readRow_yes (M.rowB l) most (by omega) (Or.inr (by omega)) l [] eR h
    · have eR := M.readRow_many l [] most (by omega) hm
      rw [List.append_nil] at eR
      exact readRow_none (M.rowB l) most (by omega) (Or.inr (by omega)) eR h
  by_cases hm1 : (s.length : Int) ≤ most
  · have eT := M.readText_textB s [] most (by omega) hm1
    rw [List.append_nil] at eT
    rw [eT] at CT
    simp only [rtV] at CT
    clear eT
    have hd1 : decide ((s.length : Int) ≤ most) = true := decide_eq_true hm1
    by_cases hm2 : ((l.length : Nat) : Int) ≤ most
    · replace CR : Hid _ := CR.out.1 hm2
      have hd2 : decide (((l.length : Nat) : Int) ≤ most) = true := decide_eq_true hm2
      go_enter Try.func8, Try.ntmps8
      go_wp2_with (go_at_call 9; refine (awake_b HB).mono ?_; clear HB; rintro e w1 ⟨rfl, HB⟩)
      go_loop [7] (fun u7 => ∃ k : Nat, k ≤ l.length ∧ u7 = .int .i64 k) (fun u7 => l.length - (intOf u7).toNat)
      case atStart => exact ⟨0, Nat.zero_le _, rfl⟩
      case round =>
        obtain ⟨k, hk, rfl⟩ := hrel
        by_cases hlt : k < l.length
        · obtain ⟨t, ht⟩ : ∃ t, l[k]? = some t := ⟨l[k]'(by omega), List.getElem?_eq_getElem _⟩
          have hcell : w1.cell? ⟨b, off + k, none⟩ = some (.string (M.bs t)) := by rw [HB.cell hb]; exact Hc.out k t ht
          have htl2 := HALL.out t (mem_of ht)
          have hbs := M.bs_size t
          clear ht
          go_wp2
          exact ⟨⟨k + 1, by omega, by go_num⟩, by simp [intOf]; omega⟩
        · obtain hkl : k = l.length := by omega
          clear hlt hk
          subst hkl
          go_wp2_with (first
            | (go_at_call 12; refine (text_b _ HB (by omega)).mono ?_; clear HB; rintro e w' ⟨rfl, HB⟩)
            | (go_at_call 18; refine (CT.out _ HB).mono ?_; clear HB CT; rintro e w' ⟨rfl, HB⟩)
            | (go_at_call 14; refine (CW.out _ HB).mono ?_; clear HB CW; rintro e w' ⟨rfl, HB⟩)
            | (go_at_call 20; refine (CR.out _ HB).mono ?_; clear HB CR; first | rintro e w' ⟨rfl, HB⟩ | rintro e w' ⟨a2, c2, rfl, HS, HB⟩)
            | (go_at_call 22; refine (CS.out _ _ _ HB HS).mono ?_; clear HB HS; rintro e w' ⟨rfl, HB⟩))
          go_ret
          exact ⟨by first | rfl | (simp; done) | (simp; omega), HB⟩
    · replace CR : Hid _ := CR.out.2 (by omega)
      have hd2 : decide (((l.length : Nat) : Int) ≤ most) = false := decide_eq_false hm2
      go_enter Try.func8, Try.ntmps8
      go_wp2_with (go_at_call 9; refine (awake_b HB).mono ?_; clear HB; rintro e w1 ⟨rfl, HB⟩)
      go_loop [7] (fun u7 => ∃ k : Nat, k ≤ l.length ∧ u7 = .int .i64 k) (fun u7 => l.length - (intOf u7).toNat)
      case atStart => exact ⟨0, Nat.zero_le _, rfl⟩
      case round =>
        obtain ⟨k, hk, rfl⟩ := hrel
        by_cases hlt : k < l.length
        · obtain ⟨t, ht⟩ : ∃ t, l[k]? = some t := ⟨l[k]'(by omega), List.getElem?_eq_getElem _⟩
          have hcell : w1.cell? ⟨b, off + k, none⟩ = some (.string (M.bs t)) := by rw [HB.cell hb]; exact Hc.out k t ht
          have htl2 := HALL.out t (mem_of ht)
          have hbs := M.bs_size t
          clear ht
          go_wp2
          exact ⟨⟨k + 1, by omega, by go_num⟩, by simp [intOf]; omega⟩
        · obtain hkl : k = l.length := by omega
          clear hlt hk
          subst hkl
          go_wp2_with (first
            | (go_at_call 12; refine (text_b _ HB (by omega)).mono ?_; clear HB; rintro e w' ⟨rfl, HB⟩)
            | (go_at_call 18; refine (CT.out _ HB).mono ?_; clear HB CT; rintro e w' ⟨rfl, HB⟩)
            | (go_at_call 14; refine (CW.out _ HB).mono ?_; clear HB CW; rintro e w' ⟨rfl, HB⟩)
            | (go_at_call 20; refine (CR.out _ HB).mono ?_; clear HB CR; first | rintro e w' ⟨rfl, HB⟩ | rintro e w' ⟨a2, c2, rfl, HS, HB⟩)
            | (go_at_call 22; refine (CS.out _ _ _ HB HS).mono ?_; clear HB HS; rintro e w' ⟨rfl, HB⟩))
          go_ret
          exact ⟨by first | rfl | (simp; done) | (simp; omega), HB⟩
  · have eT := M.readText_many s [] most (by omega) (by omega)
    rw [List.append_nil] at eT
    rw [eT] at CT
    simp only [rtV] at CT
    clear eT
    have hd1 : decide ((s.length : Int) ≤ most) = false := decide_eq_false hm1
    by_cases hm2 : ((l.length : Nat) : Int) ≤ most
    · replace CR : Hid _ := CR.out.1 hm2
      have hd2 : decide (((l.length : Nat) : Int) ≤ most) = true := decide_eq_true hm2
      go_enter Try.func8, Try.ntmps8
      go_wp2_with (go_at_call 9; refine (awake_b HB).mono ?_; clear HB; rintro e w1 ⟨rfl, HB⟩)
      go_loop [7] (fun u7 => ∃ k : Nat, k ≤ l.length ∧ u7 = .int .i64 k) (fun u7 => l.length - (intOf u7).toNat)
      case atStart => exact ⟨0, Nat.zero_le _, rfl⟩
      case round =>
        obtain ⟨k, hk, rfl⟩ := hrel
        by_cases hlt : k < l.length
        · obtain ⟨t, ht⟩ : ∃ t, l[k]? = some t := ⟨l[k]'(by omega), List.getElem?_eq_getElem _⟩
          have hcell : w1.cell? ⟨b, off + k, none⟩ = some (.string (M.bs t)) := by rw [HB.cell hb]; exact Hc.out k t ht
          have htl2 := HALL.out t (mem_of ht)
          have hbs := M.bs_size t
          clear ht
          go_wp2
          exact ⟨⟨k + 1, by omega, by go_num⟩, by simp [intOf]; omega⟩
        · obtain hkl : k = l.length := by omega
          clear hlt hk
          subst hkl
          go_wp2_with (first
            | (go_at_call 12; refine (text_b _ HB (by omega)).mono ?_; clear HB; rintro e w' ⟨rfl, HB⟩)
            | (go_at_call 18; refine (CT.out _ HB).mono ?_; clear HB CT; rintro e w' ⟨rfl, HB⟩)
            | (go_at_call 14; refine (CW.out _ HB).mono ?_; clear HB CW; rintro e w' ⟨rfl, HB⟩)
            | (go_at_call 20; refine (CR.out _ HB).mono ?_; clear HB CR; first | rintro e w' ⟨rfl, HB⟩ | rintro e w' ⟨a2, c2, rfl, HS, HB⟩)
            | (go_at_call 22; refine (CS.out _ _ _ HB HS).mono ?_; clear HB HS; rintro e w' ⟨rfl, HB⟩))
          go_ret
          exact ⟨by first | rfl | (simp; done) | (simp; omega), HB⟩
    · replace CR : Hid _ := CR.out.2 (by omega)
      have hd2 : decide (((l.length : Nat) : Int) ≤ most) = false := decide_eq_false hm2
      go_enter Try.func8, Try.ntmps8
      go_wp2_with (go_at_call 9; refine (awake_b HB).mono ?_; clear HB; rintro e w1 ⟨rfl, HB⟩)
      go_loop [7] (fun u7 => ∃ k : Nat, k ≤ l.length ∧ u7 = .int .i64 k) (fun u7 => l.length - (intOf u7).toNat)
      case atStart => exact ⟨0, Nat.zero_le _, rfl⟩
      case round =>
        obtain ⟨k, hk, rfl⟩ := hrel
        by_cases hlt : k < l.length
        · obtain ⟨t, ht⟩ : ∃ t, l[k]? = some t := ⟨l[k]'(by omega), List.getElem?_eq_getElem _⟩
          have hcell : w1.cell? ⟨b, off + k, none⟩ = some (.string (M.bs t)) := by rw [HB.cell hb]; exact Hc.out k t ht
          have htl2 := HALL.out t (mem_of ht)
          have hbs := M.bs_size t
          clear ht
          go_wp2
          exact ⟨⟨k + 1, by omega, by go_num⟩, by simp [intOf]; omega⟩
        · obtain hkl : k = l.length := by omega
          clear hlt hk
          subst hkl
          go_wp2_with (first
            | (go_at_call 12; refine (text_b _ HB (by omega)).mono ?_; clear HB; rintro e w' ⟨rfl, HB⟩)
            | (go_at_call 18; refine (CT.out _ HB).mono ?_; clear HB CT; rintro e w' ⟨rfl, HB⟩)
            | (go_at_call 14; refine (CW.out _ HB).mono ?_; clear HB CW; rintro e w' ⟨rfl, HB⟩)
            | (go_at_call 20; refine (CR.out _ HB).mono ?_; clear HB CR; first | rintro e w' ⟨rfl, HB⟩ | rintro e w' ⟨a2, c2, rfl, HS, HB⟩)
            | (go_at_call 22; refine (CS.out _ _ _ HB HS).mono ?_; clear HB HS; rintro e w' ⟨rfl, HB⟩))
          go_ret
          exact ⟨by first | rfl | (simp; done) | (simp; omega), HB⟩

end Go.Proofs.Ytfpeohlfofcbjaa
