/- areNames, and slices.Equal at texts. -/
import Derived.Test.YtgjpcddjfmdobaaDoorL1
namespace Go.Proofs.YtgjpcddjfmdobaaDoor
open Go.RowKit
set_option linter.unusedVariables false

/-- the first place at which p holds; -1: none -/
def idxI {α : Type} (p : α → Bool) (l : List α) : Int := match l.findIdx? p with | some i => (i : Int) | none => -1
theorem idxI_of {α : Type} {p : α → Bool} {l : List α} {k : Nat} (h1 : ∀ i e, i < k → l[i]? = some e → p e = false) {e : α} (he : l[k]? = some e) (h2 : p e = true) : idxI p l = (k : Int) := by
  unfold idxI
  have hk : k < l.length := (List.getElem?_eq_some_iff.1 he).1
  have : l.findIdx? p = some k := by
    rw [List.findIdx?_eq_some_iff_getElem]
    refine ⟨hk, ?_, fun j hj => ?_⟩
    · rw [List.getElem?_eq_getElem hk] at he
      rw [Option.some.inj he]; exact h2
    · have := h1 j l[j] hj (List.getElem?_eq_getElem (by omega))
      simp [this]
  rw [this]
theorem idxI_none {α : Type} {p : α → Bool} {l : List α} (h1 : ∀ i e, i < l.length → l[i]? = some e → p e = false) : idxI p l = -1 := by
  unfold idxI
  have : l.findIdx? p = none := by
    rw [List.findIdx?_eq_none_iff]
    intro e he
    obtain ⟨i, hi, rfl⟩ := List.getElem_of_mem he
    exact h1 i l[i] hi (List.getElem?_eq_getElem hi)
  rw [this]
theorem idxI_any {α : Type} (p : α → Bool) (l : List α) : decide (0 ≤ idxI p l) = l.any p := by
  unfold idxI
  cases h : l.findIdx? p with
  | none =>
    rw [List.findIdx?_eq_none_iff] at h
    have : l.any p = false := by rw [List.any_eq_false]; intro x hx; simp [h x hx]
    rw [this]; rfl
  | some i =>
    obtain ⟨hi, hp, _⟩ := List.findIdx?_eq_some_iff_getElem.1 h
    have : l.any p = true := List.any_eq_true.2 ⟨l[i], List.getElem_mem hi, hp⟩
    rw [this]; simp
theorem idxI_bound {α : Type} (p : α → Bool) (l : List α) : -1 ≤ idxI p l ∧ idxI p l ≤ (l.length : Int) := by
  unfold idxI
  cases h : l.findIdx? p with
  | none => simp
  | some i =>
    obtain ⟨hi, _, _⟩ := List.findIdx?_eq_some_iff_getElem.1 h
    simp; omega

theorem notName_at (s : List UInt8) (w : World) (hs : s.length ≤ maxLen) :
    Calls Tryd.prog 49 #[.string (M.bs s)] w fun e w' => e = .returned (.bool (!RC.isNm s)) ∧ w' = w := by
  obtain ⟨q, hq⟩ : ∃ q, RC.isNm s = q := ⟨_, rfl⟩
  have CN : Hid (∀ W, Calls Tryd.prog 15 #[.string (M.bs s)] W fun e w' => e = .returned (.bool q) ∧ w' = W) := fun W => by
    rw [← hq]; exact IsName_at s W hs
  rw [hq]
  clear hq
  go_enter Tryd.func49, Tryd.ntmps49
  go_wp2_with (go_at_call 15; refine (CN.out _).mono ?_; rintro e w' ⟨rfl, rfl⟩)
  go_ret
  exact ⟨rfl, rfl⟩

/-- where the texts of a slice lie -/
def SA (w : World) (a : Option Addr) (l : List (List UInt8)) : Prop := ∀ i t, l[i]? = some t → ∃ b off, a = some ⟨b, off, none⟩ ∧ w.cell? ⟨b, off + i, none⟩ = some (.string (M.bs t))
theorem Strs.sa {B : Nat} {w : World} {a : Option Addr} {n c : Nat} {l : List (List UInt8)} (h : Strs B w (.slice a n c) l) : n = l.length ∧ SA w a l := by
  rcases h with ⟨rfl, _, _, e⟩ | ⟨b, off, cap, e, hb, hc⟩
  · simp only [Value.slice.injEq] at e
    exact ⟨e.2.1, fun i t ht => by simp at ht⟩
  · simp only [Value.slice.injEq] at e
    exact ⟨e.2.1, fun i t ht => ⟨b, off, e.1, hc i t ht⟩⟩

set_option maxRecDepth 8000 in
set_option maxHeartbeats 1000000 in
theorem IndexS_x (l : List (List UInt8)) (a : Option Addr) (c : Nat) (w : World) (hv : SA w a l) (hl : ∀ t ∈ l, t.length ≤ maxLen) (hn : l.length ≤ maxLen) :
    Calls Tryd.prog 60 #[.slice a l.length c, .func (.func 49) #[] #[]] w fun e w' => e = .returned (.int .i64 (idxI (fun s => !RC.isNm s) l)) ∧ w' = w := by
  have HV : Hid (SA w a l) := hv
  have HL : Hid (∀ t ∈ l, t.length ≤ maxLen) := hl
  clear hv hl
  unfold maxLen at hn
  go_enter Tryd.func60, Tryd.ntmps60
  go_wp2_with fail
  go_loop [5, 8] (fun u5 u8 => ∃ k : Nat, k ≤ l.length ∧ u8 = .int .i64 k ∧ ∀ i e, i < k → l[i]? = some e → (!RC.isNm e) = false) (fun _ u8 => l.length - (intOf u8).toNat)
  case atStart => exact ⟨0, Nat.zero_le _, rfl, fun i e hi => by omega⟩
  case round =>
    obtain ⟨k, hk, rfl, hpre⟩ := hrel
    have HP : Hid (∀ i e, i < k → l[i]? = some e → (!RC.isNm e) = false) := hpre
    clear hpre
    by_cases hlt : k < l.length
    · obtain ⟨t, ht⟩ : ∃ t, l[k]? = some t := ⟨l[k], List.getElem?_eq_getElem hlt⟩
      obtain ⟨b, off, rfl, hc⟩ := HV.out k t ht
      have htl := HL.out t (List.mem_of_getElem? ht)
      obtain ⟨q, hq⟩ : ∃ q, (!RC.isNm t) = q := ⟨_, rfl⟩
      have CN : Hid (∀ W, Calls Tryd.prog 49 #[.string (M.bs t)] W fun e w' => e = .returned (.bool q) ∧ w' = W) := fun W => by
        rw [← hq]; exact notName_at t W htl
      have HF : Hid (q = true → idxI (fun s => !RC.isNm s) l = (k : Int)) := fun h => idxI_of HP.out ht (by rw [hq]; exact h)
      have HE : Hid (q = false → ∀ i e, i < k + 1 → l[i]? = some e → (!RC.isNm e) = false) := fun h i e hi he => by
        rcases (by omega : i < k ∨ i = k) with h' | rfl
        · exact HP.out i e h' he
        · rw [ht] at he; cases he; rw [hq]; exact h
      clear ht hq htl
      cases q
      · go_wp2_with (go_at_call 49; refine (CN.out _).mono ?_; rintro e w' ⟨rfl, rfl⟩)
        go_round
        case rel => exact ⟨k + 1, by omega, by go_num, HE.out trivial⟩
        case measure => simp [intOf]; omega
      · go_wp2_with (go_at_call 49; refine (CN.out _).mono ?_; rintro e w' ⟨rfl, rfl⟩)
        go_ret
        exact ⟨by rw [HF.out trivial]; rfl, rfl⟩
    · obtain rfl : k = l.length := by omega
      have HF : Hid (idxI (fun s => !RC.isNm s) l = -1) := idxI_none HP.out
      go_wp2_with fail
      go_ret
      exact ⟨by rw [HF.out]; rfl, rfl⟩
theorem ContainsS_x (l : List (List UInt8)) (a : Option Addr) (c : Nat) (w : World) (hv : SA w a l) (hl : ∀ t ∈ l, t.length ≤ maxLen) (hn : l.length ≤ maxLen) :
    Calls Tryd.prog 48 #[.slice a l.length c, .func (.func 49) #[] #[]] w fun e w' => e = .returned (.bool (l.any fun s => !RC.isNm s)) ∧ w' = w := by
  have hb := idxI_bound (fun s => !RC.isNm s) l
  obtain ⟨i, hi⟩ : ∃ i, idxI (fun s => !RC.isNm s) l = i := ⟨_, rfl⟩
  have CI : Hid (Calls Tryd.prog 60 #[.slice a l.length c, .func (.func 49) #[] #[]] w fun e w' => e = .returned (.int .i64 i) ∧ w' = w) := by
    show Calls _ _ _ _ _
    rw [← hi]; exact IndexS_x l a c w hv hl hn
  have HA : Hid (decide (0 ≤ i) = l.any fun s => !RC.isNm s) := by show _ = _; rw [← hi]; exact idxI_any _ l
  clear hi hb
  go_enter Tryd.func48, Tryd.ntmps48
  go_wp2_with (go_at_call 60; refine CI.out.mono ?_; rintro e w' ⟨rfl, rfl⟩)
  go_ret
  exact ⟨by rw [← HA.out]; rfl, rfl⟩
theorem any_all {α : Type} (p : α → Bool) (l : List α) : (!(l.any fun s => !p s)) = l.all p := by
  induction l with
  | nil => rfl
  | cons a l ih => simp only [List.any_cons, List.all_cons, Bool.not_or, Bool.not_not, ih]
theorem areNames_at (l : List (List UInt8)) (a : Option Addr) (c : Nat) (w : World) (hv : SA w a l) (hl : ∀ t ∈ l, t.length ≤ maxLen) (hn : l.length ≤ maxLen) :
    Calls Tryd.prog 36 #[.slice a l.length c] w fun e w' => e = .returned (.bool (l.all RC.isNm)) ∧ w' = w := by
  obtain ⟨q, hq⟩ : ∃ q, (l.any fun s => !RC.isNm s) = q := ⟨_, rfl⟩
  have CC : Hid (Calls Tryd.prog 48 #[.slice a l.length c, .func (.func 49) #[] #[]] w fun e w' => e = .returned (.bool q) ∧ w' = w) := by
    show Calls _ _ _ _ _
    rw [← hq]; exact ContainsS_x l a c w hv hl hn
  rw [← any_all, hq]
  clear hq
  go_enter Tryd.func36, Tryd.ntmps36
  go_wp2_with (go_at_call 48; refine CC.out.mono ?_; rintro e w' ⟨rfl, rfl⟩)
  go_ret
  exact ⟨rfl, rfl⟩

set_option maxHeartbeats 1000000 in
theorem Equal_x (l1 l2 : List (List UInt8)) (a1 a2 : Option Addr) (c1 c2 : Nat) (w : World) (h1 : SA w a1 l1) (h2 : SA w a2 l2) (hn1 : l1.length ≤ maxLen) (hn2 : l2.length ≤ maxLen) :
    Calls Tryd.prog 26 #[.slice a1 l1.length c1, .slice a2 l2.length c2] w fun e w' => e = .returned (.bool (decide (l1 = l2))) ∧ ∃ n, w' = w.drewN n := by
  have H1 : Hid (SA w a1 l1) := h1
  have H2 : Hid (SA w a2 l2) := h2
  clear h1 h2
  unfold maxLen at hn1 hn2
  by_cases hln : l1.length = l2.length
  · have hq : ((l1.length : Int) != (l2.length : Int)) = false := by simp [hln]
    have HLN : Hid (l1.length = l2.length) := hln
    clear hln
    go_enter Tryd.func26, Tryd.ntmps26
    go_wp2_with fail
    go_loopw [5, 13] (fun u5 u13 wr => ∃ k : Nat, k ≤ l1.length ∧ u13 = .int .i64 k ∧ (∀ i, i < k → l1[i]? = l2[i]?) ∧ ∃ n, wr = w.drewN n) (fun _ u13 _ => l1.length - (intOf u13).toNat)
    case atStart => exact ⟨0, Nat.zero_le _, rfl, fun i hi => by omega, 0, rfl⟩
    case round =>
      obtain ⟨k, hk, rfl, hsame, n, rfl⟩ := hrel
      have HS : Hid (∀ i, i < k → l1[i]? = l2[i]?) := hsame
      clear hsame
      by_cases hlt : k < l1.length
      · obtain ⟨t1, ht1⟩ : ∃ t, l1[k]? = some t := ⟨l1[k], List.getElem?_eq_getElem hlt⟩
        have hlt2 : k < l2.length := by rw [← HLN.out]; exact hlt
        obtain ⟨t2, ht2⟩ : ∃ t, l2[k]? = some t := ⟨l2[k], List.getElem?_eq_getElem hlt2⟩
        obtain ⟨b1, o1, rfl, g1⟩ := H1.out k t1 ht1
        obtain ⟨b2, o2, rfl, g2⟩ := H2.out k t2 ht2
        have HT1 : Hid (l1[k]? = some t1) := ht1
        have HT2 : Hid (l2[k]? = some t2) := ht2
        clear ht1 ht2
        by_cases hq2 : t1 = t2
        · have hbq : (!(M.bs t1).toList == (M.bs t2).toList) = false := by rw [hq2]; simp
          have HQ : Hid (t1 = t2) := hq2
          clear hq2
          go_wp2_with fail
          go_quiet (fail)
          go_wp2_with fail
          go_roundw
          case rel =>
            refine ⟨k + 1, by omega, by go_num, ?_, _, rfl⟩
            intro i hi
            by_cases hik : i = k
            · subst hik; rw [HT1.out, HT2.out, HQ.out]
            · exact HS.out i (by omega)
          case measure => simp [intOf]; omega
        · have hbq : (!(M.bs t1).toList == (M.bs t2).toList) = true := by
            simp only [Lib.toList_data, M.bs_toList, Bool.not_eq_true', beq_eq_false_iff_ne]; exact hq2
          have HQ : Hid (¬ t1 = t2) := hq2
          clear hq2
          go_wp2_with fail
          go_quiet (fail)
          go_wp2_with fail
          go_ret
          refine ⟨?_, _, World.drewN_drewN ..⟩
          have hne : l1 ≠ l2 := by
            intro e
            apply HQ.out
            have h := HT1.out
            rw [e, HT2.out] at h
            exact (Option.some.inj h).symm
          rw [decide_eq_false hne]
          rfl
      · obtain rfl : k = l1.length := by omega
        go_wp2_with fail
        go_ret
        refine ⟨?_, n, rfl⟩
        have he : l1 = l2 := by
          apply List.ext_getElem?
          intro i
          by_cases hi : i < l1.length
          · exact HS.out i hi
          · rw [List.getElem?_eq_none (by omega), List.getElem?_eq_none (by rw [← HLN.out]; omega)]
        rw [decide_eq_true he]
        rfl
  · have hq : ((l1.length : Int) != (l2.length : Int)) = true := by rw [bne_iff_ne]; omega
    have hne : l1 ≠ l2 := fun e => hln (by rw [e])
    rw [decide_eq_false hne]
    clear hln hne
    go_enter Tryd.func26, Tryd.ntmps26
    go_wp2_with fail
    go_ret
    exact ⟨rfl, 0, rfl⟩
end Go.Proofs.YtgjpcddjfmdobaaDoor
