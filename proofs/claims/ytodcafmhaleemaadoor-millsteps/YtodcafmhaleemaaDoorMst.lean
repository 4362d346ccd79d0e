/- MillSteps' walk. -/
import Derived.Test.YtodcafmhaleemaaDoorT15
import Derived.Test.YtodcafmhaleemaaDoorV1
namespace Go.Proofs.YtodcafmhaleemaaDoor
open Go.RowKit
set_option linter.unusedVariables false

set_option maxRecDepth 8000 in
set_option maxHeartbeats 2000000 in
theorem millSteps_walk (code : List UInt8) (W : World) (hG : GW W) (hT : Tab W) (hl : code.length ≤ 9223372036854775807) :
    Calls Tryd.prog 4 #[.string (M.bs code)] W fun e w' => e = .returned (.bool true) ∧ Below W.heap.size W w' := by
  have CA : Hid (Calls Tryd.prog 9 #[] W fun e w' => e = .returned (.bool true) ∧ GB W w') := awake_m (GB.refl hG) hT
  have hs := M.bs_size code
  have CE0 : Hid (∀ W', GB W W' → Calls Tryd.prog 14 #[.slice none 0 0, .slice none 0 0] W' fun e w' => e = .returned (.bool true) ∧ GB W w') := fun W' h => by
    refine (same_any (.slice none 0 0) (.slice none 0 0) [] [] W'.heap.size W'.heap.size W' (Or.inl ⟨rfl, none, 0, rfl⟩) (Or.inl ⟨rfl, none, 0, rfl⟩) (by simp)).mono ?_
    rintro e w' ⟨he, n, rfl⟩
    exact ⟨by rw [he]; simp, h.drewN n⟩
  by_cases h1 : 64 < code.length
  · have CS : Hid (∀ W', Calls Tryd.prog 12 #[.string (M.bs code)] W' fun e w' => e = .returned (.tuple #[.slice none 0 0, .int .i64 4]) ∧ w' = W') := fun W' => Steps_long code W' h1 hl
    have CT : Hid (∀ W', Calls Tryd.prog 13 #[.string (M.bs code)] W' fun e w' => e = .returned (.tuple #[.slice none 0 0, .int .i64 4]) ∧ w' = W') := fun W' => rSteps_long code W' h1 hl
    clear hG hT
    go_enter Tryd.func4, Tryd.ntmps4
    go_wp2_with (first
      | (go_at_call 9; refine CA.out.mono ?_; clear CA; rintro e w1 ⟨rfl, HG⟩; have HG : Hid (GB W w1) := HG)
      | (go_at_call 12; refine (CS.out _).mono ?_; rintro e w' ⟨rfl, rfl⟩)
      | (go_at_call 13; refine (CT.out _).mono ?_; rintro e w' ⟨rfl, rfl⟩)
      | (go_at_call 14; refine (CE0.out _ HG.out).mono ?_; rintro e w4 ⟨rfl, HG4⟩))
    go_ret
    exact ⟨rfl, HG4.b⟩
  · cases hp : Q.parse code with
    | none =>
      have CS : Hid (∀ W', GB W W' → Calls Tryd.prog 12 #[.string (M.bs code)] W' fun e w' => e = .returned (.tuple #[.slice none 0 0, .int .i64 32]) ∧ GB W w') := fun W' h => by
        refine (Steps_at code W' (by omega)).mono ?_
        intro e w' hq
        unfold StP at hq
        rw [hp] at hq
        exact ⟨hq.1, h.step hq.2⟩
      have CT : Hid (∀ W', GB W W' → Calls Tryd.prog 13 #[.string (M.bs code)] W' fun e w' => e = .returned (.tuple #[.slice none 0 0, .int .i64 32]) ∧ GB W w') := fun W' h => by
        refine (rSteps_at code W' (by omega)).mono ?_
        intro e w' hq
        unfold StP at hq
        rw [hp] at hq
        exact ⟨hq.1, h.step hq.2⟩
      clear hG hT hp
      go_enter Tryd.func4, Tryd.ntmps4
      go_wp2_with (first
        | (go_at_call 9; refine CA.out.mono ?_; clear CA; rintro e w1 ⟨rfl, HG⟩; have HG : Hid (GB W w1) := HG)
        | (go_at_call 12; refine (CS.out _ HG.out).mono ?_; clear HG; rintro e w2 ⟨rfl, HG⟩; have HG : Hid (GB W w2) := HG)
        | (go_at_call 13; refine (CT.out _ HG.out).mono ?_; clear HG; rintro e w3 ⟨rfl, HG⟩; have HG : Hid (GB W w3) := HG)
        | (go_at_call 14; refine (CE0.out _ HG.out).mono ?_; clear HG; rintro e w4 ⟨rfl, HG⟩))
      go_ret
      exact ⟨rfl, HG.b⟩
    | some l =>
      obtain ⟨hf, hne⟩ := Q.parse_some hp
      have hll : l.length ≤ 64 := by
        have : l.length ≤ l.flatten.length := by
          clear hp hf CA CE0
          induction l with
          | nil => simp
          | cons x l ih =>
            have h2 := ih (fun y hy => hne y (by simp [hy]))
            have h3 : 0 < x.length := by
              rcases x with _ | ⟨c, x⟩
              · exact absurd rfl (hne [] (by simp))
              · simp
            simp only [List.flatten_cons, List.length_append, List.length_cons]
            omega
        rw [hf] at this
        omega
      have CS : Hid (∀ W', GB W W' → Calls Tryd.prog 12 #[.string (M.bs code)] W' fun e w' => ∃ a c, e = .returned (.tuple #[.slice a l.length c, .int .i64 0]) ∧ Strs w'.heap.size w' (.slice a l.length c) l ∧ GB W w') := fun W' h => by
        refine (Steps_at code W' (by omega)).mono ?_
        intro e w' hq
        unfold StP at hq
        rw [hp] at hq
        obtain ⟨a, c, h2, h3, _, h4⟩ := hq
        exact ⟨a, c, h2, h3, h.step h4⟩
      have CT : Hid (∀ W' v, GB W W' → Strs W'.heap.size W' v l → Calls Tryd.prog 13 #[.string (M.bs code)] W' fun e w' => ∃ a c, e = .returned (.tuple #[.slice a l.length c, .int .i64 0]) ∧ Strs w'.heap.size w' (.slice a l.length c) l ∧ Strs w'.heap.size w' v l ∧ GB W w') := fun W' v h hv => by
        refine (rSteps_at code W' (by omega)).mono ?_
        intro e w' hq
        unfold StP at hq
        rw [hp] at hq
        obtain ⟨a, c, h2, h3, _, h4⟩ := hq
        exact ⟨a, c, h2, h3, hv.below h4 h4.size, h.step h4⟩
      have CE : Hid (∀ W' v1 v2, GB W W' → Strs W'.heap.size W' v1 l → Strs W'.heap.size W' v2 l → Calls Tryd.prog 14 #[v1, v2] W' fun e w' => e = .returned (.bool true) ∧ GB W w') := fun W' v1 v2 h hv1 hv2 => by
        refine (same_any v1 v2 l l W'.heap.size W'.heap.size W' hv1 hv2 (by omega)).mono ?_
        rintro e w' ⟨he, n, rfl⟩
        exact ⟨by rw [he]; simp, h.drewN n⟩
      clear hG hT hp hf hne CE0
      go_enter Tryd.func4, Tryd.ntmps4
      go_wp2_with (first
        | (go_at_call 9; refine CA.out.mono ?_; clear CA; rintro e w1 ⟨rfl, HG⟩; have HG : Hid (GB W w1) := HG)
        | (go_at_call 12; refine (CS.out _ HG.out).mono ?_; clear HG CS; rintro e w2 ⟨a, c, rfl, hst, HG⟩; have HG : Hid (GB W w2) := HG; have HST : Hid (Strs w2.heap.size w2 (.slice a l.length c) l) := hst; clear hst)
        | (go_at_call 13; refine (CT.out _ _ HG.out HST.out).mono ?_; clear HG CT HST; rintro e w3 ⟨a2, c2, rfl, hs1, hs2, HG⟩; have HG : Hid (GB W w3) := HG; have HS1 : Hid (Strs w3.heap.size w3 (.slice a2 l.length c2) l) := hs1; have HS2 : Hid (Strs w3.heap.size w3 (.slice a l.length c) l) := hs2; clear hs1 hs2)
        | (go_at_call 14; refine (CE.out _ _ _ HG.out HS2.out HS1.out).mono ?_; clear HG; rintro e w4 ⟨rfl, HG⟩))
      go_ret
      exact ⟨rfl, HG.b⟩
end Go.Proofs.YtodcafmhaleemaaDoor
