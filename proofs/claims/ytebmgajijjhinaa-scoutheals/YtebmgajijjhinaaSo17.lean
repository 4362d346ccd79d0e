/- hearRumour. -/
import Derived.Test.YtebmgajijjhinaaSo16
namespace Go.Proofs.Ytebmgajijjhinaa
open Go.RowKit Go.Maps
set_option linter.unusedVariables false
set_option linter.unusedSimpArgs false

/-- what a rumour's hearing looks at -/
structure RuC (w : World) (p : Nat) (B : Nat → Prop) (W : World) (N : Nat) (s : SO.Sc) (m : K.Me) (b : Nat) (W1 : World) : Prop where
  box : ∀ U, Bl W1 U → U.heap[b]? = some (.cells (meV m) 54 (0, 0))
  me : ∀ U, Bl W1 U → U.cell? ⟨p, 10, none⟩ = some (.int .i64 s.me)
  oth : ∀ U, Bl W1 U → Calls Try.prog 19 #[.pointer (some ⟨p, 0, none⟩), .int .i64 m.1] U fun e w' => e = .returned (.bool (SO.other s m.1)) ∧ w' = U
  left : ∀ U, Bl W1 U → Calls Try.prog 12 #[.pointer (some ⟨p, 0, none⟩)] U fun e w' => e = .returned (.bool (SO.left s)) ∧ Bl W1 w'
  meC : ∀ U, Bl W1 U → Calls Try.prog 11 #[.pointer (some ⟨p, 0, none⟩)] U fun e w' => e = .returned (.agg (meV (SO.of s s.me))) ∧ Bl W1 w'
  ab1 : ∀ U, Bl W1 U → Calls Try.prog 39 #[.agg (meV (SO.of s s.me)), .agg (meV m)] U fun e w' => e = .returned (.bool (K.above (SO.of s s.me) m)) ∧ Bl W1 w'
  ab2 : ∀ U, Bl W1 U → Calls Try.prog 39 #[.agg (meV m), .agg (meV (SO.of s s.me))] U fun e w' => e = .returned (.bool (K.above m (SO.of s s.me))) ∧ Bl W1 w'
  lrn : ∀ (m' : K.Me), i64 m'.1 → ∀ U V, Bl W1 U → V = U.alloc (.cells (meV m') 54) → Calls Try.prog 36 #[.pointer (some ⟨p, 0, none⟩), .slice (some ⟨U.heap.size, 0, none⟩) 1 1] V fun e w' => e = .returned (.tuple #[]) ∧ SX w p B W (N + 1) (SO.learn s m') w' ∧ w'.cell? ⟨p, 10, none⟩ = some (.int .i64 s.me) ∧ w'.heap[b]? = some (.cells (meV m) 54 (0, 0))
  rem : ∀ U, Bl W1 U → Calls Try.prog 21 #[.pointer (some ⟨p, 0, none⟩), .int .i64 s.me] U fun e w' => e = .returned (.tuple #[]) ∧ (w'.heap[b]? = some (.cells (meV m) 54 (0, 0)) ∧ Hid (∀ U, Bl w' U → Calls Try.prog 11 #[.pointer (some ⟨p, 0, none⟩)] U fun e w2 => e = .returned (.agg (meV (SO.of s s.me))) ∧ Bl w' w2) ∧ Hid (∀ U, Bl w' U → SX w p B W N (SO.remind s s.me) U)) ∧ w'.cell? ⟨p, 10, none⟩ = some (.int .i64 s.me)
  sx : ∀ U, Bl W1 U → SX w p B W N s U
theorem ruC {w W W1 : World} {p N : Nat} {P : Pl} {B : Nat → Prop} {s : SO.Sc} {m : K.Me} (x : S0 w p P B N s W) (hN : N ≤ 100000000000) (hW : W1 = W.alloc (.cells (meV m) 54)) : RuC w p B W N s m W.heap.size W1 := by
  subst hW
  have hb0 : Bl W (W.alloc (.cells (meV m) 54)) := (Bl.refl W).alloc _
  have xg : ∀ U, Bl (W.alloc (.cells (meV m) 54)) U → S0 w p P B N s U := fun U h => x.grow (hb0.step h)
  have hm : i64 s.me := ⟨by have := x.num.m1; omega, by have := x.num.m2; have := x.num.m3; omega⟩
  refine ⟨fun U h => h.box, fun U h => (xg U h).c10, fun U h => isOther_x (xg U h) _, fun U h => ?_, fun U h => ?_, fun U h => ?_, fun U h => ?_, fun m' hm' U V h hV => ?_, fun U h => ?_, fun U h => SX.of (xg U h) (OS.of_bl (hb0.step h))⟩
  · refine (hasLeft_x (xg U h)).mono ?_
    rintro e w' ⟨rfl, hb⟩; exact ⟨rfl, h.step hb⟩
  · refine (Me_x (xg U h)).mono ?_
    rintro e w' ⟨rfl, hb⟩; exact ⟨rfl, h.step hb⟩
  · exact Above_x _ _ _ _ h
  · exact Above_x _ _ _ _ h
  · subst hV
    have x1 := (xg U h).grow ((Bl.refl U).alloc (.cells (meV m') 54))
    refine (learn_x x1 hN m' hm' _ 1 (RS.one lyM U 54 m')).mono ?_
    rintro e w' ⟨rfl, h1⟩
    refine ⟨rfl, SX.trans (OS.of_bl ((hb0.step h).alloc _)) h1, ?_, ?_⟩
    · obtain ⟨B', ⟨P', X⟩, _⟩ := h1
      have hlm : (SO.learn s m').me = s.me := by unfold SO.learn; split <;> rfl
      rw [← hlm]; exact X.c10
    · obtain ⟨B', _, O⟩ := h1
      have hbx := ((Bl.refl U).alloc (.cells (meV m') 54))
      have h2 := Bl.box (h.step hbx)
      rw [O.block _ (lt_heap h2) (fun hB => by have := (x.Bo _ hB).2; omega)]
      exact h2
  · refine (remind_x (xg U h) s.me hm).mono ?_
    rintro e w' ⟨rfl, h1⟩
    refine ⟨rfl, ⟨?_, ?_⟩, ?_⟩
    · obtain ⟨B', _, O⟩ := h1
      have h2 := Bl.box h
      rw [O.block _ (lt_heap h2) (fun hB => by have := (x.Bo _ hB).2; omega)]
      exact h2
    · have h3 := SX.trans (OS.of_bl (hb0.step h)) h1
      obtain ⟨B', ⟨P', X⟩, _⟩ := h1
      exact ⟨fun U hU => (Me_x (X.grow hU)).mono fun e w2 ⟨g1, g2⟩ => ⟨g1, hU.step g2⟩, fun U hU => h3.grow hU⟩
    · obtain ⟨B', ⟨P', X⟩, _⟩ := h1
      exact X.c10
set_option maxRecDepth 8000 in
set_option maxHeartbeats 2000000 in
/-- of another node -/
theorem rumour_other {w W : World} {p : Nat} {P : Pl} {B : Nat → Prop} {N : Nat} {s : SO.Sc} (x : S0 w p P B N s W) (hN : N ≤ 100000000000) (m : K.Me) (hm : i64 m.1) (ho : SO.other s m.1 = true) :
    Calls Try.prog 22 #[.pointer (some ⟨p, 0, none⟩), .agg (meV m)] W fun e w' => e = .returned (.tuple #[]) ∧ SX w p B W (N + 2) (SO.rum s m) w' := by
  have hne : (m.1 == s.me) = false := by
    unfold SO.other at ho
    rw [Bool.and_eq_true] at ho
    simpa using ho.2
  have HR : Hid (SO.rum s m = SO.learn s m) := by
    show _ = _
    unfold SO.rum SO.rum1
    rw [ho, hne]
    rfl
  have hmm : i64 m.1 := hm
  have hlm : (SO.learn s m).me = s.me := by unfold SO.learn; split <;> rfl
  rw [HR.out]
  have RC := hidI (ruC (m := m) x hN rfl)
  have HB : Bl (W.alloc (.cells (meV m) 54)) (W.alloc (.cells (meV m) 54)) := Bl.refl _
  have CO := hidI (RC.out.oth _ HB)
  rw [ho] at CO
  have CL : Hid (Calls Try.prog 36 #[.pointer (some ⟨p, 0, none⟩), .slice (some ⟨W.heap.size + 1, 0, none⟩) 1 1] ((W.alloc (.cells (meV m) 54)).drew.alloc (.cells (meV m) 54)) fun e w' => e = .returned (.tuple #[]) ∧ SX w p B W (N + 1) (SO.learn s m) w' ∧ w'.cell? ⟨p, 10, none⟩ = some (.int .i64 s.me) ∧ w'.heap[W.heap.size]? = some (.cells (meV m) 54 (0, 0))) := by
    have := RC.out.lrn m hmm (W.alloc (.cells (meV m) 54)).drew _ HB.drew rfl
    have e : (W.alloc (.cells (meV m) 54)).drew.heap.size = W.heap.size + 1 := by
      show (W.alloc (.cells (meV m) 54)).heap.size = _
      simp
    rw [e] at this
    exact this
  clear RC HR hlm x HB
  generalize SO.learn s m = s2 at *
  generalize s.me = me at *
  obtain ⟨n, i, st⟩ := m
  unfold meV at *
  simp only at *
  have hne2 : (n != me) = true := by simpa using hne
  go_enter Try.func22, Try.ntmps22
  go_wp2_with (go_at_call 19; refine (CO.out).mono ?_; clear CO; rintro e w1 ⟨rfl, hw⟩; rw [hw]; clear hw w1)
  go_region_with (go_at_call 36; refine (CL.out).mono ?_; clear CL; rintro e w2 ⟨rfl, h2, k10, r2⟩; have H2 := hidI h2; clear h2)
  obtain ⟨k0, k1, k2⟩ := cells3 r2
  go_wp2_with fail
  go_region
  all_goals go_wp2_with fail
  all_goals refine bodyPost_ret (results_none rfl _ _ _) rfl ?_
  all_goals exact ⟨rfl, (H2.out.more (by omega)).grow (Bl.refl _).drew⟩
end Go.Proofs.Ytebmgajijjhinaa
