/- An action's words, and what recipe.Print answers. -/
import Derived.Test.YthpdmeoljdmncaaL5
namespace Go.Proofs.Ythpdmeoljdmncaa
open Go.RowKit
set_option linter.unusedVariables false

theorem Strs.ofOwns {N : Nat} {w : World} {v : Value} {ks : List (List UInt8)} (h : w.ownsRow N 9 1 v ks.length (ks.map encS)) : ∃ a c, v = .slice a ks.length c ∧ ks.length ≤ c ∧ Strs w.heap.size w (.slice a ks.length c) ks := by
  obtain ⟨a, c, rfl, hc⟩ := TA.owns_cap h
  exact ⟨a, c, rfl, hc, strs_of_owns h⟩
theorem ownsRow_belowT {B n k : Nat} {e : TypeId} {v : Value} {xs : List Value} {w w' : World} (h : w.ownsRow B e k v n xs) (hb : Below w.heap.size w w') : w'.ownsRow B e k v n xs := by
  obtain ⟨h0, h1 | ⟨g, cap, cur, h1, h2, h3, h4⟩⟩ := h
  · exact ⟨h0, Or.inl h1⟩
  · exact ⟨h0, Or.inr ⟨g, cap, cur, h1, h2, by rw [hb.block g (TA.lt_heap h3)]; exact h3, h4⟩⟩
set_option maxRecDepth 8000 in
set_option maxHeartbeats 2000000 in
theorem actionWords_at (t : RC.Ac) (x : Option Addr) (c : Nat) {w W : World} (HB : Bl w W) (hv : Strs W.heap.size W (.slice x t.2.1.length c) t.2.1) (h4 : t.2.1.length ≤ 4) (hc : t.2.2.length ≤ 64) :
    Calls Try.prog 54 #[.agg (acL t x c).toArray] W fun e w' => ∃ a k, e = .returned (.slice a (RC.words t).length k) ∧ (RC.words t).length ≤ k ∧ Strs w'.heap.size w' (.slice a (RC.words t).length k) (RC.words t) ∧ Bl w w' := by
  obtain ⟨n, ins, code⟩ := t
  simp only [] at h4 hc hv
  have hwl : RC.words (n, ins, code) = ([RC.wMake, n] ++ RC.midW ins) ++ [RC.wBy, RC.codeW code] := by simp [RC.words]
  have B1 : Bl W (W.alloc (.cells #[.string (M.bs n), .slice x ins.length c, .string (M.bs code)] 41)) := (Bl.refl W).alloc _
  have hz1 : (W.alloc (.cells #[.string (M.bs n), .slice x ins.length c, .string (M.bs code)] 41)).heap.size = W.heap.size + 1 := by simp
  have g1 : (W.alloc (.cells #[.string (M.bs n), .slice x ins.length c, .string (M.bs code)] 41)).cell? ⟨W.heap.size, 1, none⟩ = some (.slice x ins.length c) := by rw [Lib.cell_of_heap (heap_alloc_new W _)]; rfl
  have g2 : (W.alloc (.cells #[.string (M.bs n), .slice x ins.length c, .string (M.bs code)] 41)).cell? ⟨W.heap.size, 2, none⟩ = some (.string (M.bs code)) := by rw [Lib.cell_of_heap (heap_alloc_new W _)]; rfl
  obtain ⟨W1, hW1⟩ : ∃ W1, W1 = W.alloc (.cells #[.string (M.bs n), .slice x ins.length c, .string (M.bs code)] 41) := ⟨_, rfl⟩
  rw [← hW1] at B1 hz1 g1 g2
  have HC1 : Hid (∀ W', Below (W.heap.size + 1) W1 W' → W'.cell? ⟨W.heap.size, 1, none⟩ = some (.slice x ins.length c)) := fun W' h => by rw [h.cell (p := ⟨W.heap.size, 1, none⟩) (by simp)]; exact g1
  have HC2 : Hid (∀ W', Below (W.heap.size + 1) W1 W' → W'.cell? ⟨W.heap.size, 2, none⟩ = some (.string (M.bs code))) := fun W' h => by rw [h.cell (p := ⟨W.heap.size, 2, none⟩) (by simp)]; exact g2
  have HBF : Hid (∀ W', Below (W.heap.size + 1) W1 W' → Bl w W') := fun W' h => HB.step (B1.step (by rw [hz1]; exact h))
  have OWN0 : Hid (∀ o, ((W1.alloc (.cells #[.string ⟨#[109, 97, 107, 101]⟩, .string (M.bs n)] 9)).alloc o).ownsRow (W.heap.size + 1) 9 1 (.slice (some ⟨W.heap.size + 1, 0, none⟩) 2 2) [RC.wMake, n].length ([RC.wMake, n].map encS)) := fun o => by
    have := World.ownsRow.alloc (TA.own_new W1 [RC.wMake, n] (by unfold maxLen; simp)) o
    rw [hz1] at this
    exact this
  have OWN1 : Hid ((W1.alloc (.cells #[.string ⟨#[109, 97, 107, 101]⟩, .string (M.bs n)] 9)).ownsRow (W.heap.size + 1) 9 1 (.slice (some ⟨W.heap.size + 1, 0, none⟩) 2 2) [RC.wMake, n].length ([RC.wMake, n].map encS)) := by
    have := TA.own_new W1 [RC.wMake, n] (by unfold maxLen; simp)
    rw [hz1] at this
    exact this
  have BB0 : Hid (Below (W.heap.size + 1) W1 (W1.alloc (.cells #[.string ⟨#[109, 97, 107, 101]⟩, .string (M.bs n)] 9))) := (Below.refl _ W1).alloc (by omega) _
  have BB1 : Hid (∀ w', ((W1.alloc (.cells #[.string ⟨#[109, 97, 107, 101]⟩, .string (M.bs n)] 9)).alloc (.cells #[.string ⟨#[102, 114, 111, 109]⟩] 9)).grownBy w' (Value.slice (some ⟨W.heap.size + 1, 0, none⟩) 2 2).ownBlock → Below (W.heap.size + 1) W1 w') := fun w' hg => by
    refine (BB0.out.alloc (by simp; omega) _).grown hg (by simp; omega) (fun k hk => ?_)
    cases hk; exact Nat.le_refl _
  have TS1 : Hid (TA.TS ((W1.alloc (.cells #[.string ⟨#[109, 97, 107, 101]⟩, .string (M.bs n)] 9)).alloc (.cells #[.string ⟨#[102, 114, 111, 109]⟩] 9)) (some ⟨W.heap.size + 1 + 1, 0, none⟩) [RC.wFrom]) := by
    have := TA.ts_new (W1.alloc (.cells #[.string ⟨#[109, 97, 107, 101]⟩, .string (M.bs n)] 9)) [RC.wFrom] 9
    have e : (W1.alloc (.cells #[.string ⟨#[109, 97, 107, 101]⟩, .string (M.bs n)] 9)).heap.size = W.heap.size + 1 + 1 := by simp; omega
    rw [e] at this
    exact this
  have TSI : Hid (∀ W', Below (W.heap.size + 1) W1 W' → TA.TS W' x ins) := fun W' h => (TA.ts_of (hv.bl B1)).below (by rw [hz1]; exact h)
  have CW : Hid (∀ W', Below (W.heap.size + 1) W1 W' → Calls Try.prog 79 #[.string (M.bs code)] W' fun e w' => e = .returned (.string (M.bs (RC.codeW code))) ∧ Below W'.heap.size W' w') := fun W' h => codeWord_at code (Bl.refl W') (by omega)
  have TS2 : Hid (∀ W' : World, TA.TS (W'.alloc (.cells #[.string ⟨#[98, 121]⟩, .string (M.bs (RC.codeW code))] 9)) (some ⟨W'.heap.size, 0, none⟩) [RC.wBy, RC.codeW code]) := fun W' => TA.ts_new W' [RC.wBy, RC.codeW code] 9
  have HWL : Hid (RC.words (n, ins, code) = ([RC.wMake, n] ++ RC.midW ins) ++ [RC.wBy, RC.codeW code]) := hwl
  clear hwl
  generalize RC.words (n, ins, code) = L at *
  clear HB hv B1 g1 g2 hz1
  unfold acL
  simp only []
  subst hW1
  by_cases h0 : ins = []
  · subst h0
    have HM : Hid (RC.midW [] = []) := rfl
    clear OWN0 BB1 TS1 TSI HC1
    go_enter Try.func54, Try.ntmps54
    go_wp2_with (first
      | (go_at_call 79; refine (CW.out _ BB0.out).mono ?_; rintro e w3 ⟨rfl, hb3⟩; have OWN3 := ownsRow_belowT OWN1.out hb3; have BB3 := BB0.out.trans (hb3.mono (by simp)); clear CW OWN1 BB0 hb3)
      | (refine TA.wl_app rfl _ _ rfl (W.heap.size + 1) [RC.wMake, n] _ rfl (World.ownsRow.alloc OWN3 _) (some ⟨w3.heap.size, 0, none⟩) [RC.wBy, RC.codeW code] 2 2 rfl rfl (TS2.out w3) (by have := BB3.size; simp at this ⊢; omega) (by simp) ?_; intro v4 w4 hown4 hg4; have BB4 := (BB3.alloc (by have := BB3.size; simp at this ⊢; omega) _).grown hg4 (by have := BB3.size; simp at this ⊢; omega) (fun k hk => (TA.owns_ge (World.ownsRow.alloc OWN3 (.cells #[.string ⟨#[98, 121]⟩, .string (M.bs (RC.codeW code))] 9)) hk).1); clear OWN3 BB3 hg4))
    have e4 : [RC.wMake, n] ++ [RC.wBy, RC.codeW code] = L := by rw [HWL.out, HM.out]; simp
    rw [e4] at hown4
    obtain ⟨a, k, rfl, hk, hs⟩ := Strs.ofOwns hown4
    go_ret
    exact ⟨a, k, rfl, hk, hs, HBF.out _ BB4⟩
  · have hl0 : 0 < ins.length := List.length_pos_iff.2 h0
    have HM : Hid (RC.midW ins = RC.wFrom :: ins) := if_neg h0
    clear h0 OWN1 BB0
    go_enter Try.func54, Try.ntmps54
    go_wp2_with (first
      | (refine TA.wl_app rfl _ _ rfl (W.heap.size + 1) [RC.wMake, n] _ rfl (OWN0.out _) (some ⟨W.heap.size + 1 + 1, 0, none⟩) [RC.wFrom] 1 1 rfl rfl TS1.out (by first | (simp; done) | (simp; omega)) (by simp) ?_; intro v1 w1 hown1 hg1; have BB2 := BB1.out _ hg1; clear OWN0 TS1 hg1 BB1; have hcc1 := HC1.out _ BB2)
      | (refine TA.wl_app rfl _ _ rfl (W.heap.size + 1) ([RC.wMake, n] ++ [RC.wFrom]) v1 rfl hown1 x ins ins.length c rfl rfl (TSI.out _ BB2) (by have := BB2.size; simp at this ⊢; omega) (by simp; omega) ?_; intro v2 w2 hown2 hg2; replace BB2 := BB2.grown hg2 (by have := BB2.size; simp at this ⊢; omega) (fun k hk => (TA.owns_ge hown1 hk).1); clear hown1 hg2 TSI hcc1; have hcc2 := HC2.out _ BB2)
      | (go_at_call 79; refine (CW.out _ BB2).mono ?_; rintro e w3 ⟨rfl, hb3⟩; have OWN3 := ownsRow_belowT hown2 hb3; have BB3 := BB2.trans (hb3.mono (by have := BB2.size; simp at this ⊢; omega)); clear CW hown2 BB2 hb3 hcc2)
      | (refine TA.wl_app rfl _ _ rfl (W.heap.size + 1) ([RC.wMake, n] ++ [RC.wFrom] ++ ins) _ rfl (World.ownsRow.alloc OWN3 _) (some ⟨w3.heap.size, 0, none⟩) [RC.wBy, RC.codeW code] 2 2 rfl rfl (TS2.out w3) (by have := BB3.size; simp at this ⊢; omega) (by simp; omega) ?_; intro v4 w4 hown4 hg4; have BB4 := (BB3.alloc (by have := BB3.size; simp at this ⊢; omega) _).grown hg4 (by have := BB3.size; simp at this ⊢; omega) (fun k hk => (TA.owns_ge (World.ownsRow.alloc OWN3 (.cells #[.string ⟨#[98, 121]⟩, .string (M.bs (RC.codeW code))] 9)) hk).1); clear OWN3 BB3 hg4))
    have e4 : [RC.wMake, n] ++ [RC.wFrom] ++ ins ++ [RC.wBy, RC.codeW code] = L := by rw [HWL.out, HM.out]; simp
    rw [e4] at hown4
    obtain ⟨a, k, rfl, hk, hs⟩ := Strs.ofOwns hown4
    go_ret
    exact ⟨a, k, rfl, hk, hs, HBF.out _ BB4⟩
end Go.Proofs.Ythpdmeoljdmncaa
