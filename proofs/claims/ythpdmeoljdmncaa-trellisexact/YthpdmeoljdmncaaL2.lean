/- areNames, and slices.Equal at texts. -/
import Derived.Test.YthpdmeoljdmncaaL1
namespace Go.Proofs.Ythpdmeoljdmncaa
open Go.RowKit
set_option linter.unusedVariables false

/-- the first place at which p holds; -1: none -/
def idxI {α : Type} (p : α → Bool) (l : List α) : Int := match l.findIdx? p with | some i => (i : Int) | none => -1
theorem idxI_of {α : Type} {p : α → Bool} {l : List α} {k : Nat} (h1 : ∀ i e, i < k → l[i]? = some e → p e = false) {e : α} (he : l[k]? = some e) (h2 : p e = true) : idxI p l = (k : Int) := by
  unfold idxI
  have hk : k < l.length := (List.getElem?_eq_some_iff.1 he).1
  have : l.findIdx? p = some k := by
    rw [List.findIdx?_eq_some_iff_getElem]
    refine ⟨hk, ?_, fun j hj => ?_⟩
    · rw [List.getElem?_eq_getElem hk] at he
      rw [Option.some.inj he]; exact h2
    · have := h1 j l[j] hj (List.getElem?_eq_getElem (by omega))
      simp [this]
  rw [this]
theorem idxI_none {α : Type} {p : α → Bool} {l : List α} (h1 : ∀ i e, i < l.length → l[i]? = some e → p e = false) : idxI p l = -1 := by
  unfold idxI
  have : l.findIdx? p = none := by
    rw [List.findIdx?_eq_none_iff]
    intro e he
    obtain ⟨i, hi, rfl⟩ := List.getElem_of_mem he
    exact h1 i l[i] hi (List.getElem?_eq_getElem hi)
  rw [this]
theorem idxI_any {α : Type} (p : α → Bool) (l : List α) : decide (0 ≤ idxI p l) = l.any p := by
  unfold idxI
  cases h : l.findIdx? p with
  | none =>
    rw [List.findIdx?_eq_none_iff] at h
    have : l.any p = false := by rw [List.any_eq_false]; intro x hx; simp [h x hx]
    rw [this]; rfl
  | some i =>
    obtain ⟨hi, hp, _⟩ := List.findIdx?_eq_some_iff_getElem.1 h
    have : l.any p = true := List.any_eq_true.2 ⟨l[i], List.getElem_mem hi, hp⟩
    rw [this]; simp
theorem idxI_bound {α : Type} (p : α → Bool) (l : List α) : -1 ≤ idxI p l ∧ idxI p l ≤ (l.length : Int) := by
  unfold idxI
  cases h : l.findIdx? p with
  | none => simp
  | some i =>
    obtain ⟨hi, _, _⟩ := List.findIdx?_eq_some_iff_getElem.1 h
    simp; omega

theorem notName_at (s : List UInt8) (w : World) (hs : s.length ≤ maxLen) :
    Calls Try.prog 88 #[.string (M.bs s)] w fun e w' => e = .returned (.bool (!RC.isNm s)) ∧ w' = w := by
  obtain ⟨q, hq⟩ : ∃ q, RC.isNm s = q := ⟨_, rfl⟩
  have CN : Hid (∀ W, Calls Try.prog 89 #[.string (M.bs s)] W fun e w' => e = .returned (.bool q) ∧ w' = W) := fun W => by
    rw [← hq]; exact IsName_at s W hs
  rw [hq]
  clear hq
  go_enter Try.func88, Try.ntmps88
  go_wp2_with (go_at_call 89; refine (CN.out _).mono ?_; rintro e w' ⟨rfl, rfl⟩)
  go_ret
  exact ⟨rfl, rfl⟩

/-- where the texts of a slice lie -/
def SA (w : World) (a : Option Addr) (l : List (List UInt8)) : Prop := ∀ i t, l[i]? = some t → ∃ b off, a = some ⟨b, off, none⟩ ∧ w.cell? ⟨b, off + i, none⟩ = some (.string (M.bs t))
theorem Strs.sa {B : Nat} {w : World} {a : Option Addr} {n c : Nat} {l : List (List UInt8)} (h : Strs B w (.slice a n c) l) : n = l.length ∧ SA w a l := by
  rcases h with ⟨rfl, _, _, e⟩ | ⟨b, off, cap, e, hb, hc⟩
  · simp only [Value.slice.injEq] at e
    exact ⟨e.2.1, fun i t ht => by simp at ht⟩
  · simp only [Value.slice.injEq] at e
    exact ⟨e.2.1, fun i t ht => ⟨b, off, e.1, hc i t ht⟩⟩

set_option maxRecDepth 8000 in
set_option maxHeartbeats 1000000 in
theorem IndexS_x (l : List (List UInt8)) (a : Option Addr) (c : Nat) (w : World) (hv : SA w a l) (hl : ∀ t ∈ l, t.length ≤ maxLen) (hn : l.length ≤ maxLen) :
    Calls Try.prog 80 #[.slice a l.length c, .func (.func 88) #[] #[]] w fun e w' => e = .returned (.int .i64 (idxI (fun s => !RC.isNm s) l)) ∧ w' = w := by
  have HV : Hid (SA w a l) := hv
  have HL : Hid (∀ t ∈ l, t.length ≤ maxLen) := hl
  clear hv hl
  unfold maxLen at hn
  go_enter Try.func80, Try.ntmps80
  go_wp2_with fail
  go_loop [5, 8] (fun u5 u8 => ∃ k : Nat, k ≤ l.length ∧ u8 = .int .i64 k ∧ ∀ i e, i < k → l[i]? = some e → (!RC.isNm e) = false) (fun _ u8 => l.length - (intOf u8).toNat)
  case atStart => exact ⟨0, Nat.zero_le _, rfl, fun i e hi => by omega⟩
  case round =>
    obtain ⟨k, hk, rfl, hpre⟩ := hrel
    have HP : Hid (∀ i e, i < k → l[i]? = some e → (!RC.isNm e) = false) := hpre
    clear hpre
    by_cases hlt : k < l.length
    · obtain ⟨t, ht⟩ : ∃ t, l[k]? = some t := ⟨l[k], List.getElem?_eq_getElem hlt⟩
      obtain ⟨b, off, rfl, hc⟩ := HV.out k t ht
      have htl := HL.out t (List.mem_of_getElem? ht)
      obtain ⟨q, hq⟩ : ∃ q, (!RC.isNm t) = q := ⟨_, rfl⟩
      have CN : Hid (∀ W, Calls Try.prog 88 #[.string (M.bs t)] W fun e w' => e = .returned (.bool q) ∧ w' = W) := fun W => by
        rw [← hq]; exact notName_at t W htl
      have HF : Hid (q = true → idxI (fun s => !RC.isNm s) l = (k : Int)) := fun h => idxI_of HP.out ht (by rw [hq]; exact h)
      have HE : Hid (q = false → ∀ i e, i < k + 1 → l[i]? = some e → (!RC.isNm e) = false) := fun h i e hi he => by
        rcases (by omega : i < k ∨ i = k) with h' | rfl
        · exact HP.out i e h' he
        · rw [ht] at he; cases he; rw [hq]; exact h
      clear ht hq htl
      cases q
      · go_wp2_with (go_at_call 88; refine (CN.out _).mono ?_; rintro e w' ⟨rfl, rfl⟩)
        go_round
        case rel => exact ⟨k + 1, by omega, by go_num, HE.out trivial⟩
        case measure => simp [intOf]; omega
      · go_wp2_with (go_at_call 88; refine (CN.out _).mono ?_; rintro e w' ⟨rfl, rfl⟩)
        go_ret
        exact ⟨by rw [HF.out trivial]; rfl, rfl⟩
    · obtain rfl : k = l.length := by omega
      have HF : Hid (idxI (fun s => !RC.isNm s) l = -1) := idxI_none HP.out
      go_wp2_with fail
      go_ret
      exact ⟨by rw [HF.out]; rfl, rfl⟩
theorem ContainsS_x (l : List (List UInt8)) (a : Option Addr) (c : Nat) (w : World) (hv : SA w a l) (hl : ∀ t ∈ l, t.length ≤ maxLen) (hn : l.length ≤ maxLen) :
    Calls Try.prog 57 #[.slice a l.length c, .func (.func 88) #[] #[]] w fun e w' => e = .returned (.bool (l.any fun s => !RC.isNm s)) ∧ w' = w := by
  have hb := idxI_bound (fun s => !RC.isNm s) l
  obtain ⟨i, hi⟩ : ∃ i, idxI (fun s => !RC.isNm s) l = i := ⟨_, rfl⟩
  have CI : Hid (Calls Try.prog 80 #[.slice a l.length c, .func (.func 88) #[] #[]] w fun e w' => e = .returned (.int .i64 i) ∧ w' = w) := by
    show Calls _ _ _ _ _
    rw [← hi]; exact IndexS_x l a c w hv hl hn
  have HA : Hid (decide (0 ≤ i) = l.any fun s => !RC.isNm s) := by show _ = _; rw [← hi]; exact idxI_any _ l
  clear hi hb
  go_enter Try.func57, Try.ntmps57
  go_wp2_with (go_at_call 80; refine CI.out.mono ?_; rintro e w' ⟨rfl, rfl⟩)
  go_ret
  exact ⟨by rw [← HA.out]; rfl, rfl⟩
theorem any_all {α : Type} (p : α → Bool) (l : List α) : (!(l.any fun s => !p s)) = l.all p := by
  induction l with
  | nil => rfl
  | cons a l ih => simp only [List.any_cons, List.all_cons, Bool.not_or, Bool.not_not, ih]
theorem areNames_at (l : List (List UInt8)) (a : Option Addr) (c : Nat) (w : World) (hv : SA w a l) (hl : ∀ t ∈ l, t.length ≤ maxLen) (hn : l.length ≤ maxLen) :
    Calls Try.prog 74 #[.slice a l.length c] w fun e w' => e = .returned (.bool (l.all RC.isNm)) ∧ w' = w := by
  obtain ⟨q, hq⟩ : ∃ q, (l.any fun s => !RC.isNm s) = q := ⟨_, rfl⟩
  have CC : Hid (Calls Try.prog 57 #[.slice a l.length c, .func (.func 88) #[] #[]] w fun e w' => e = .returned (.bool q) ∧ w' = w) := by
    show Calls _ _ _ _ _
    rw [← hq]; exact ContainsS_x l a c w hv hl hn
  rw [← any_all, hq]
  clear hq
  go_enter Try.func74, Try.ntmps74
  go_wp2_with (go_at_call 57; refine CC.out.mono ?_; rintro e w' ⟨rfl, rfl⟩)
  go_ret
  exact ⟨rfl, rfl⟩

end Go.Proofs.Ythpdmeoljdmncaa
