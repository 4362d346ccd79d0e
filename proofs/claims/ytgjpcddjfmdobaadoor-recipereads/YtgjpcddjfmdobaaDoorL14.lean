/- recipe's add. -/
import Derived.Test.YtgjpcddjfmdobaaDoorL13
namespace Go.Proofs.YtgjpcddjfmdobaaDoor
open Go.RowKit
set_option linter.unusedVariables false

/-- what is known where a line's words are added to a draft -/
structure AD (w : World) (N b : Nat) (S : List (List UInt8)) (A : List RC.Ac) (vs va : Value) (xs : List (Option Addr × Nat)) (k : List UInt8) (r : List (List UInt8)) (wb : Nat) (W : World) : Prop where
  d : DX w N b (S, A) vs va xs W
  v : Strs W.heap.size W (.slice (some ⟨wb, 0, none⟩) (r.length + 1) (r.length + 1)) (k :: r)
  l : ∀ t ∈ k :: r, t.length ≤ 100000
  n : r.length ≤ 80000
  s : S.length ≤ 8
  a : A.length ≤ 12
theorem AD.lt {w : World} {N b : Nat} {S : List (List UInt8)} {A : List RC.Ac} {vs va : Value} {xs : List (Option Addr × Nat)} {k : List UInt8} {r : List (List UInt8)} {wb : Nat} {W : World} (h : AD w N b S A vs va xs k r wb W) : wb < W.heap.size ∧ ∀ i t, (k :: r)[i]? = some t → W.cell? ⟨wb, i, none⟩ = some (.string (M.bs t)) := by
  rcases h.v with ⟨e, _⟩ | ⟨b', off, cap, e, hb, hc⟩
  · simp at e
  · simp only [Value.slice.injEq, Option.some.injEq, Addr.mk.injEq] at e
    obtain ⟨⟨rfl, rfl, _⟩, _, _⟩ := e
    exact ⟨hb, fun i t ht => by have := hc i t ht; rwa [Nat.zero_add] at this⟩
theorem AD.sx {w : World} {N b : Nat} {S : List (List UInt8)} {A : List RC.Ac} {vs va : Value} {xs : List (Option Addr × Nat)} {k : List UInt8} {r : List (List UInt8)} {wb : Nat} {W : World} (h : AD w N b S A vs va xs k r wb W) : SX2 W (some ⟨wb, 1, none⟩) r.length r.length r := by
  obtain ⟨h1, h2⟩ := h.lt
  refine ⟨Or.inr ⟨wb, 1, _, rfl, h1, fun i t ht => ?_⟩, Nat.le_refl _⟩
  rw [Nat.add_comm 1 i]
  exact h2 (i + 1) t (by simpa using ht)

set_option maxRecDepth 8000 in
set_option maxHeartbeats 2000000 in
theorem add_other {w : World} {N b : Nat} {S : List (List UInt8)} {A : List RC.Ac} {vs va : Value} {xs : List (Option Addr × Nat)} {k : List UInt8} {r : List (List UInt8)} {wb : Nat} {W : World} (h : AD w N b S A vs va xs k r wb W) (h1 : k ≠ RC.wSource) (h2 : k ≠ RC.wMake) :
    Calls Tryd.prog 32 #[.pointer (some ⟨b, 0, none⟩), .slice (some ⟨wb, 0, none⟩) (r.length + 1) (r.length + 1)] W fun e w' => e = .returned (.bool false) ∧ Bl w w' := by
  have h0 := h.lt.2 0 k rfl
  have hb := h.d.bl
  have e1 : ((M.bs k).toList == [115, 111, 117, 114, 99, 101]) = false := by rw [bs_eqW]; exact decide_eq_false h1
  have e2 : ((M.bs k).toList == [109, 97, 107, 101]) = false := by rw [bs_eqW]; exact decide_eq_false h2
  clear h h1 h2
  go_enter Tryd.func32, Tryd.ntmps32
  go_wp2_with fail
  go_ret
  exact ⟨rfl, hb⟩

set_option maxRecDepth 8000 in
set_option maxHeartbeats 2000000 in
theorem add_srcNo {w : World} {N b : Nat} {S : List (List UInt8)} {A : List RC.Ac} {vs va : Value} {xs : List (Option Addr × Nat)} {r : List (List UInt8)} {wb : Nat} {W : World} (h : AD w N b S A vs va xs RC.wSource r wb W) (hq : A.length ≠ 0 ∨ S.length = 8 ∨ r.length ≠ 1 ∨ ∃ n, r = [n] ∧ RC.isNm n = false) :
    Calls Tryd.prog 32 #[.pointer (some ⟨b, 0, none⟩), .slice (some ⟨wb, 0, none⟩) (r.length + 1) (r.length + 1)] W fun e w' => e = .returned (.bool false) ∧ Bl w w' := by
  have h0 := h.lt.2 0 _ rfl
  have hb := h.d.bl
  have e1 : ((M.bs RC.wSource).toList == [115, 111, 117, 114, 99, 101]) = true := by rw [bs_eqW]; rfl
  have hn := h.n
  have CS : Hid (∀ a c, SA W a r → Calls Tryd.prog 44 #[.pointer (some ⟨b, 0, none⟩), .slice a r.length c] W fun e w' => e = .returned (.bool false) ∧ w' = W) := fun a c hsa => addSource_no S A vs va xs r a c N b h.d hsa (fun t ht => by have := h.l t (by simp [ht]); unfold maxLen; omega) (by omega) h.s h.a hq
  have HS : Hid (SA W (some ⟨wb, 1, none⟩) r) := (Strs.sa h.sx.v).2
  by_cases hr : r.length = 0
  · have hr0 : r = [] := List.length_eq_zero_iff.1 hr
    subst hr0
    have HE : Hid (∀ a, SA W a []) := fun a i t ht => by simp at ht
    clear h hq HS hr
    simp only [List.length_nil] at CS ⊢
    go_enter Tryd.func32, Tryd.ntmps32
    go_wp2_with (go_at_call 44; refine (CS.out _ _ (HE.out _)).mono ?_; rintro e w' ⟨rfl, hw⟩; rw [hw]; clear hw w')
    go_ret
    exact ⟨rfl, hb⟩
  · have hr2 : ¬ r.length + 1 = 1 := by omega
    clear h hq
    go_enter Tryd.func32, Tryd.ntmps32
    go_wp2_with (go_at_call 44; refine (CS.out _ _ HS.out).mono ?_; rintro e w' ⟨rfl, hw⟩; rw [hw]; clear hw w')
    go_ret
    exact ⟨rfl, hb⟩

set_option maxRecDepth 8000 in
set_option maxHeartbeats 2000000 in
theorem add_srcYes {w : World} {N b : Nat} {S : List (List UInt8)} {vs va : Value} {n : List UInt8} {wb : Nat} {W : World} (h : AD w N b S [] vs va [] RC.wSource [n] wb W) (h8 : S.length ≠ 8) (hn : RC.isNm n = true) :
    Calls Tryd.prog 32 #[.pointer (some ⟨b, 0, none⟩), .slice (some ⟨wb, 0, none⟩) 2 2] W fun e w' => ∃ vs' va', e = .returned (.bool true) ∧ DX w N b (S ++ [n], []) vs' va' [] w' := by
  have h0 := h.lt.2 0 _ rfl
  have e1 : ((M.bs RC.wSource).toList == [115, 111, 117, 114, 99, 101]) = true := by rw [bs_eqW]; rfl
  have CS : Hid (∀ c, Calls Tryd.prog 44 #[.pointer (some ⟨b, 0, none⟩), .slice (some ⟨wb, 1, none⟩) 1 c] W fun e w' => ∃ vs' va', e = .returned (.bool true) ∧ DX w N b (S ++ [n], []) vs' va' [] w') := fun c => addSource_yes S vs va n wb 1 c N b h.d h.lt.1 (h.lt.2 1 n rfl) h.s h8 hn
  clear h
  go_enter Tryd.func32, Tryd.ntmps32
  go_wp2_with (go_at_call 44; refine (CS.out _).mono ?_; rintro e w' ⟨vs', va', rfl, HD⟩)
  go_ret
  exact ⟨vs', va', rfl, HD⟩

set_option maxRecDepth 8000 in
set_option maxHeartbeats 2000000 in
theorem add_mkNo {w : World} {N b : Nat} {S : List (List UInt8)} {A : List RC.Ac} {vs va : Value} {xs : List (Option Addr × Nat)} {r : List (List UInt8)} {wb : Nat} {W : World} (h : AD w N b S A vs va xs RC.wMake r wb W) (hq : RC.readA r = none ∨ A.length = 12) :
    Calls Tryd.prog 32 #[.pointer (some ⟨b, 0, none⟩), .slice (some ⟨wb, 0, none⟩) (r.length + 1) (r.length + 1)] W fun e w' => e = .returned (.bool false) ∧ Bl w w' := by
  have h0 := h.lt.2 0 _ rfl
  have e1 : ((M.bs RC.wMake).toList == [115, 111, 117, 114, 99, 101]) = false := by rw [bs_eqW]; rfl
  have e2 : ((M.bs RC.wMake).toList == [109, 97, 107, 101]) = true := by rw [bs_eqW]; rfl
  have hn := h.n
  have CS : Hid (∀ a c, SX2 W a r.length c r → Calls Tryd.prog 45 #[.pointer (some ⟨b, 0, none⟩), .slice a r.length c] W fun e w' => e = .returned (.bool false) ∧ Bl w w') := fun a c hsa => by
    cases hra : RC.readA r with
    | none => exact addAction_no S A vs va xs r a c N b h.d hsa (fun t ht => h.l t (by simp [ht])) (by omega) hra
    | some t => exact addAction_full S A vs va xs r t a c N b h.d hsa (fun t ht => h.l t (by simp [ht])) (by omega) hra (by rcases hq with h' | h'; rw [hra] at h'; simp at h'; exact h')
  have HS : Hid (SX2 W (some ⟨wb, 1, none⟩) r.length r.length r) := h.sx
  by_cases hr : r.length = 0
  · have hr0 : r = [] := List.length_eq_zero_iff.1 hr
    subst hr0
    have HE : Hid (∀ a c, SX2 W a 0 c []) := fun a c => ⟨Or.inl ⟨rfl, a, c, rfl⟩, Nat.zero_le _⟩
    clear h hq HS hr
    simp only [List.length_nil] at CS ⊢
    go_enter Tryd.func32, Tryd.ntmps32
    go_wp2_with (go_at_call 45; refine (CS.out _ _ (HE.out _ _)).mono ?_; rintro e w' ⟨rfl, hb⟩)
    go_ret
    exact ⟨rfl, hb⟩
  · have hr2 : ¬ r.length + 1 = 1 := by omega
    clear h hq
    go_enter Tryd.func32, Tryd.ntmps32
    go_wp2_with (go_at_call 45; refine (CS.out _ _ HS.out).mono ?_; rintro e w' ⟨rfl, hb⟩)
    go_ret
    exact ⟨rfl, hb⟩

set_option maxRecDepth 8000 in
set_option maxHeartbeats 2000000 in
theorem add_mkYes {w : World} {N b : Nat} {S : List (List UInt8)} {A : List RC.Ac} {vs va : Value} {xs : List (Option Addr × Nat)} {r : List (List UInt8)} {t : RC.Ac} {wb : Nat} {W : World} (h : AD w N b S A vs va xs RC.wMake r wb W) (hq : RC.readA r = some t) (h12 : A.length ≠ 12) :
    Calls Tryd.prog 32 #[.pointer (some ⟨b, 0, none⟩), .slice (some ⟨wb, 0, none⟩) (r.length + 1) (r.length + 1)] W fun e w' => ∃ vs' va' xs', e = .returned (.bool true) ∧ DX w N b (S, A ++ [t]) vs' va' xs' w' := by
  have h0 := h.lt.2 0 _ rfl
  have e1 : ((M.bs RC.wMake).toList == [115, 111, 117, 114, 99, 101]) = false := by rw [bs_eqW]; rfl
  have e2 : ((M.bs RC.wMake).toList == [109, 97, 107, 101]) = true := by rw [bs_eqW]; rfl
  have hn := h.n
  have hr : 3 ≤ r.length := by
    rcases Nat.lt_or_ge r.length 3 with h' | h'
    · rw [RC.readA_short r h'] at hq; simp at hq
    · exact h'
  have CS : Hid (Calls Tryd.prog 45 #[.pointer (some ⟨b, 0, none⟩), .slice (some ⟨wb, 1, none⟩) r.length r.length] W fun e w' => ∃ vs' va' xs', e = .returned (.bool true) ∧ DX w N b (S, A ++ [t]) vs' va' xs' w') := addAction_yes S A vs va xs r t _ _ N b h.d h.sx (fun t ht => h.l t (by simp [ht])) (by omega) hq h.a h12
  have hr2 : ¬ r = [] := fun e => by rw [e] at hr; simp at hr
  clear h hq
  go_enter Tryd.func32, Tryd.ntmps32
  go_wp2_with (go_at_call 45; refine CS.out.mono ?_; rintro e w' ⟨vs', va', xs', rfl, HD⟩)
  go_ret
  exact ⟨vs', va', xs', rfl, HD⟩

theorem add_none {w : World} {N b : Nat} {S : List (List UInt8)} {A : List RC.Ac} {vs va : Value} {xs : List (Option Addr × Nat)} {k : List UInt8} {r : List (List UInt8)} {wb : Nat} {W : World} (h : AD w N b S A vs va xs k r wb W) (hq : RC.addL (S, A) (k :: r) = none) :
    Calls Tryd.prog 32 #[.pointer (some ⟨b, 0, none⟩), .slice (some ⟨wb, 0, none⟩) (r.length + 1) (r.length + 1)] W fun e w' => e = .returned (.bool false) ∧ Bl w w' := by
  unfold RC.addL at hq
  simp only [] at hq
  by_cases h1 : k = RC.wSource
  · rw [if_pos h1] at hq
    subst h1
    refine add_srcNo h ?_
    by_cases hA : A.length ≠ 0
    · exact Or.inl hA
    right
    by_cases hS : S.length = 8
    · exact Or.inl hS
    right
    rcases r with _ | ⟨n, _ | ⟨m, r⟩⟩
    · left; simp
    · right
      refine ⟨n, rfl, ?_⟩
      cases e : RC.isNm n with
      | false => rfl
      | true =>
        simp only [] at hq
        rw [if_pos ⟨List.length_eq_zero_iff.1 (by omega), hS, e⟩] at hq
        simp at hq
    · left; simp
  · rw [if_neg h1] at hq
    by_cases h2 : k = RC.wMake
    · rw [if_pos h2] at hq
      subst h2
      refine add_mkNo h ?_
      cases hr : RC.readA r with
      | none => exact Or.inl rfl
      | some t =>
        rw [hr] at hq
        simp only [] at hq
        right
        refine Classical.byContradiction fun e => ?_
        rw [if_neg e] at hq
        simp at hq
    · exact add_other h h1 h2
theorem add_some {w : World} {N b : Nat} {S : List (List UInt8)} {A : List RC.Ac} {g' : RC.Gr} {vs va : Value} {xs : List (Option Addr × Nat)} {k : List UInt8} {r : List (List UInt8)} {wb : Nat} {W : World} (h : AD w N b S A vs va xs k r wb W) (hq : RC.addL (S, A) (k :: r) = some g') :
    Calls Tryd.prog 32 #[.pointer (some ⟨b, 0, none⟩), .slice (some ⟨wb, 0, none⟩) (r.length + 1) (r.length + 1)] W fun e w' => ∃ vs' va' xs', e = .returned (.bool true) ∧ DX w N b g' vs' va' xs' w' := by
  unfold RC.addL at hq
  simp only [] at hq
  by_cases h1 : k = RC.wSource
  · rw [if_pos h1] at hq
    subst h1
    rcases r with _ | ⟨n, _ | ⟨m, r⟩⟩
    · simp at hq
    · simp only [] at hq
      by_cases hc : A = [] ∧ S.length ≠ 8 ∧ RC.isNm n = true
      · rw [if_pos hc] at hq
        simp only [Option.some.injEq] at hq
        subst hq
        obtain ⟨rfl, hS, hn⟩ := hc
        have hx : xs = [] := List.length_eq_zero_iff.1 h.d.len
        subst hx
        refine (add_srcYes h hS hn).mono ?_
        rintro e w' ⟨vs', va', rfl, HD⟩
        exact ⟨vs', va', [], rfl, HD⟩
      · rw [if_neg hc] at hq; simp at hq
    · simp at hq
  · rw [if_neg h1] at hq
    by_cases h2 : k = RC.wMake
    · rw [if_pos h2] at hq
      subst h2
      cases hr : RC.readA r with
      | none => rw [hr] at hq; simp at hq
      | some t =>
        rw [hr] at hq
        simp only [] at hq
        by_cases h12 : A.length = 12
        · rw [if_pos h12] at hq; simp at hq
        · rw [if_neg h12] at hq
          simp only [Option.some.injEq] at hq
          subst hq
          exact add_mkYes h hr h12
    · rw [if_neg h2] at hq; simp at hq
end Go.Proofs.YtgjpcddjfmdobaaDoor
