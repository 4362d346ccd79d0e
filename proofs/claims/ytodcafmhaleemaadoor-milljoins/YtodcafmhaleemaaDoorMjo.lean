/- MillJoins' walk. -/
import Derived.Test.YtodcafmhaleemaaDoorT15
namespace Go.Proofs.YtodcafmhaleemaaDoor
open Go.RowKit
set_option linter.unusedVariables false

set_option maxRecDepth 8000 in
set_option maxHeartbeats 2000000 in
theorem millJoins_walk (code : List UInt8) (W : World) (hG : GW W) (hT : Tab W) (hl : code.length ≤ 9223372036854775807) :
    Calls Tryd.prog 8 #[.string (M.bs code)] W fun e w' => e = .returned (.bool true) ∧ Below W.heap.size W w' := by
  have CA : Hid (Calls Tryd.prog 9 #[] W fun e w' => e = .returned (.bool true) ∧ GB W w') := awake_m (GB.refl hG) hT
  have hs := M.bs_size code
  by_cases h1 : 64 < code.length
  · have CS : Hid (∀ W', Calls Tryd.prog 12 #[.string (M.bs code)] W' fun e w' => e = .returned (.tuple #[.slice none 0 0, .int .i64 4]) ∧ w' = W') := fun W' => Steps_long code W' h1 hl
    have HD : Hid (decide ((64 : Int) < (code.length : Int)) = true) := by show _ = _; simp; omega
    clear hG hT
    go_enter Tryd.func8, Tryd.ntmps8
    go_wp2_with (first
      | (go_at_call 9; refine CA.out.mono ?_; clear CA; rintro e w1 ⟨rfl, HG⟩; have HG : Hid _ := HG)
      | (go_at_call 12; refine (CS.out _).mono ?_; rintro e w' ⟨rfl, rfl⟩))
    go_ret
    exact ⟨by rw [← HD.out]; rfl, HG.out.b⟩
  · cases hp : Q.parse code with
    | none =>
      have CS : Hid (∀ W', GB W W' → Calls Tryd.prog 12 #[.string (M.bs code)] W' fun e w' => e = .returned (.tuple #[.slice none 0 0, .int .i64 32]) ∧ GB W w') := fun W' h => by
        refine (Steps_at code W' (by omega)).mono ?_
        intro e w' hq
        unfold StP at hq
        rw [hp] at hq
        exact ⟨hq.1, h.step hq.2⟩
      clear hG hT hp
      go_enter Tryd.func8, Tryd.ntmps8
      go_wp2_with (first
        | (go_at_call 9; refine CA.out.mono ?_; clear CA; rintro e w1 ⟨rfl, HG⟩; have HG : Hid (GB W w1) := HG)
        | (go_at_call 12; refine (CS.out _ HG.out).mono ?_; clear HG; rintro e w2 ⟨rfl, HG⟩; have HG : Hid (GB W w2) := HG))
      go_ret
      exact ⟨rfl, HG.out.b⟩
    | some l =>
      obtain ⟨hf, hne⟩ := Q.parse_some hp
      have hll : l.length ≤ 64 := by
        have : l.length ≤ l.flatten.length := by
          clear hp hf CA
          induction l with
          | nil => simp
          | cons x l ih =>
            have h2 := ih (fun y hy => hne y (by simp [hy]))
            have h3 : 0 < x.length := by
              rcases x with _ | ⟨c, x⟩
              · exact absurd rfl (hne [] (by simp))
              · simp
            simp only [List.flatten_cons, List.length_append, List.length_cons]
            omega
        rw [hf] at this
        omega
      have CS : Hid (∀ W', GB W W' → Calls Tryd.prog 12 #[.string (M.bs code)] W' fun e w' => ∃ a c, e = .returned (.tuple #[.slice a l.length c, .int .i64 0]) ∧ Strs w'.heap.size w' (.slice a l.length c) l ∧ GB W w') := fun W' h => by
        refine (Steps_at code W' (by omega)).mono ?_
        intro e w' hq
        unfold StP at hq
        rw [hp] at hq
        obtain ⟨a, c, h2, h3, _, h4⟩ := hq
        exact ⟨a, c, h2, h3, h.step h4⟩
      have HNE : Hid (∀ x ∈ l, x ≠ []) := hne
      have HF : Hid (cat l l.length = code) := by show _ = _; rw [cat_all, hf]
      have HCL : Hid (∀ k, (cat l k).length ≤ code.length) := fun k => by have := cat_le l k; rw [hf] at this; exact this
      have HC0 : Hid (M.bs (cat l 0) = ⟨#[]⟩) := by show _ = _; rw [cat_zero]; rfl
      clear hG hT hp hf hne
      go_enter Tryd.func8, Tryd.ntmps8
      go_wp2_with (first
        | (go_at_call 9; refine CA.out.mono ?_; clear CA; rintro e w1 ⟨rfl, HG⟩; have HG : Hid (GB W w1) := HG)
        | (go_at_call 12; refine (CS.out _ HG.out).mono ?_; clear HG CS; rintro e w2 ⟨a, c, rfl, hst, HG⟩; have HG : Hid (GB W w2) := HG; have HST : Hid (TX w2 a l) := strs_at hst; clear hst))
      go_loopw [5, 6] (fun u5 u6 wr => ∃ k : Nat, k ≤ l.length ∧ u5 = .string (M.bs (cat l k)) ∧ u6 = .int .i64 (k : Int) ∧ wr = w2) (fun _ u6 _ => l.length - (intOf u6).toNat)
      case atStart => exact ⟨0, Nat.zero_le _, by rw [HC0.out], rfl, rfl⟩
      case round =>
        obtain ⟨k, hk, rfl, rfl, rfl⟩ := hrel
        by_cases hlt : k < l.length
        · obtain ⟨t, ht⟩ : ∃ t, l[k]? = some t := ⟨l[k], List.getElem?_eq_getElem hlt⟩
          obtain ⟨sb, off, rfl, hsb, hc⟩ := HST.out k t ht
          have i0 : (0 : Int) ≤ (k : Int) := by omega
          have i1 : (k : Int) < (l.length : Int) := by omega
          have hnt : 0 < t.length := by
            have := HNE.out t (List.mem_of_getElem? ht)
            rcases t with _ | ⟨c, x⟩
            · exact absurd rfl this
            · simp
          have hq := bs_ne t hnt
          have hcs := cat_succ l k t ht
          have hcl := HCL.out (k + 1)
          rw [hcs, List.length_append] at hcl
          have happ : M.bs (cat l k) ++ M.bs t = M.bs (cat l (k + 1)) := by rw [hcs]; exact bs_append _ _
          have b1 := M.bs_size (cat l k)
          have b2 := M.bs_size t
          have hc64 : code.length ≤ 64 := by omega
          clear hcs ht
          generalize (cat l k).length = n1 at *
          go_wp2_with fail
          go_roundw
          case rel => exact ⟨k + 1, by omega, rfl, by go_num, by first | exact trivial | rfl⟩
          case measure => simp [intOf]; omega
        · obtain rfl : k = l.length := by omega
          have he : M.bs (cat l l.length) = M.bs code := by rw [HF.out]
          rw [he]
          have hq : ((M.bs code).toList == (M.bs code).toList) = true := by simp
          clear he
          go_wp2_with fail
          go_ret
          exact ⟨rfl, HG.out.b⟩
end Go.Proofs.YtodcafmhaleemaaDoor
