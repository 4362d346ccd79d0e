/- SapReads' walk: what bytes begin with is what the document says. -/
import Derived.Test.YtfpeohlfofcbjaaR4
import Derived.Test.YtfpeohlfofcbjaaArgs
namespace Go.Proofs.Ytfpeohlfofcbjaa
open Go.RowKit
set_option linter.unusedVariables false

theorem refReadNum_b (l : List UInt8) (hl : l.length ≤ maxLen) {w0 w : World} (h : Bl w0 w) :
    Calls Try.prog 17 #[.string (M.bs l)] w fun e w' => e = .returned (rnV (M.readNum l)) ∧ Bl w0 w' := by
  refine (refReadNum_l l w hl).mono ?_
  rintro e w' ⟨rfl, n, rfl⟩
  exact ⟨rfl, h.drewN n⟩
theorem refReadText_b (l : List UInt8) (most : Int) (hl : l.length ≤ maxLen) {w0 w : World} (h : Bl w0 w) :
    Calls Try.prog 19 #[.string (M.bs l), .int .i64 most] w fun e w' => e = .returned (rtV (M.readText l most)) ∧ Bl w0 w' := by
  refine (refReadText_l l most w hl).mono ?_
  rintro e w' ⟨rfl, n, rfl⟩
  exact ⟨rfl, h.drewN n⟩
theorem refReadRow_none (l : List UInt8) (most : Int) (hl : l.length ≤ 4611686018427387904) (hroom : most ≤ 8796093022208 ∨ l.length ≤ 8796093022208) (hR : M.readRow l most = none) {w0 w : World} (h : Bl w0 w) :
    Calls Try.prog 21 #[.string (M.bs l), .int .i64 most] w fun e w' => e = .returned (.tuple #[.slice none 0 0, .string ⟨#[]⟩, .bool false]) ∧ Bl w0 w' := by
  refine (refReadRow_any l most w hl hroom).mono ?_
  rw [hR]
  rintro e w' ⟨rfl, hb⟩
  exact ⟨rfl, h.step hb⟩
theorem refReadRow_yes (l : List UInt8) (most : Int) (hl : l.length ≤ 4611686018427387904) (hroom : most ≤ 8796093022208 ∨ l.length ≤ 8796093022208) (ls : List (List UInt8)) (r : List UInt8) (hR : M.readRow l most = some (ls, r)) {w0 w : World} (h : Bl w0 w) (v1 : Value) (h1 : Strs w.heap.size w v1 ls) :
    Calls Try.prog 21 #[.string (M.bs l), .int .i64 most] w fun e w' => ∃ a c, e = .returned (.tuple #[.slice a ls.length c, .string (M.bs r), .bool true]) ∧ Strs w'.heap.size w' (.slice a ls.length c) ls ∧ Strs w'.heap.size w' v1 ls ∧ Bl w0 w' := by
  refine (refReadRow_any l most w hl hroom).mono ?_
  rw [hR]
  rintro e w' ⟨v, rfl, hs, hb⟩
  obtain ⟨a, c, rfl⟩ := hs.shape
  exact ⟨a, c, rfl, hs, h1.below hb hb.size, h.step hb⟩

set_option maxHeartbeats 4000000 in
theorem sapReads_walk (l : List UInt8) (most : Int) (w : World) (hl : l.length ≤ 1048576) :
    Calls Try.prog 4 #[.string (M.bs l), .int .i64 most] w fun e w' => e = .returned (.bool true) ∧ Below w.heap.size w w' := by
  have HB : Bl w w := Bl.refl w
  have hml : l.length ≤ maxLen := by unfold maxLen; omega
  have CN : Hid (∀ W, Bl w W → Calls Try.prog 16 #[.string (M.bs l)] W fun e w' => e = .returned (rnV (M.readNum l)) ∧ Bl w w') := fun W h => readNum_b l hml h
  have DN : Hid (∀ W, Bl w W → Calls Try.prog 17 #[.string (M.bs l)] W fun e w' => e = .returned (rnV (M.readNum l)) ∧ Bl w w') := fun W h => refReadNum_b l hml h
  have CT : Hid (∀ W, Bl w W → Calls Try.prog 18 #[.string (M.bs l), .int .i64 most] W fun e w' => e = .returned (rtV (M.readText l most)) ∧ Bl w w') := fun W h => readText_b l most hml h
  have DT : Hid (∀ W, Bl w W → Calls Try.prog 19 #[.string (M.bs l), .int .i64 most] W fun e w' => e = .returned (rtV (M.readText l most)) ∧ Bl w w') := fun W h => refReadText_b l most hml h
  cases hN : M.readNum l
  rotate_left
  rename_i xN
  obtain ⟨n, rN⟩ := xN
  all_goals
    rw [hN] at CN DN
    simp only [rnV] at CN DN
    clear hN
    cases hT : M.readText l most
    rotate_left
    rename_i xT
    obtain ⟨t, rT⟩ := xT
  all_goals
    rw [hT] at CT DT
    simp only [rtV] at CT DT
    clear hT
    cases hR : M.readRow l most
    rotate_left
    rename_i xR
    obtain ⟨ls, rR⟩ := xR
    have hls : ls.length ≤ 1048576 := by
      have e := (M.readRow_some _ _ _ _ hR).1
      have h1 := rowB_ge ls
      have h2 := congrArg List.length e
      rw [List.length_append] at h2
      omega
    have CR : Hid (∀ W, Bl w W → Calls Try.prog 20 #[.string (M.bs l), .int .i64 most] W fun e w' => ∃ a c, e = .returned (.tuple #[.slice a ls.length c, .string (M.bs rR), .bool true]) ∧ Strs w'.heap.size w' (.slice a ls.length c) ls ∧ Bl w w') := fun W h => readRow_yes l most (by omega) (Or.inr (by omega)) ls rR hR h
    have DR : Hid (∀ W v1, Bl w W → Strs W.heap.size W v1 ls → Calls Try.prog 21 #[.string (M.bs l), .int .i64 most] W fun e w' => ∃ a c, e = .returned (.tuple #[.slice a ls.length c, .string (M.bs rR), .bool true]) ∧ Strs w'.heap.size w' (.slice a ls.length c) ls ∧ Strs w'.heap.size w' v1 ls ∧ Bl w w') := fun W v1 h h1 => refReadRow_yes l most (by omega) (Or.inr (by omega)) ls rR hR h v1 h1
    have CS : Hid (∀ W v1 v2, Bl w W → Strs W.heap.size W v1 ls → Strs W.heap.size W v2 ls → Calls Try.prog 22 #[v1, v2] W fun e w' => e = .returned (.bool true) ∧ Bl w w') := fun W v1 v2 h h1 h2 => by
      refine (same_b v1 v2 ls ls _ _ h h1 h2 (by omega)).mono ?_
      rintro e w' ⟨rfl, h3⟩
      exact ⟨by simp, h3⟩
    clear hR
    rotate_left
    have CR : Hid (∀ W, Bl w W → Calls Try.prog 20 #[.string (M.bs l), .int .i64 most] W fun e w' => e = .returned (.tuple #[.slice none 0 0, .string ⟨#[]⟩, .bool false]) ∧ Bl w w') := fun W h => readRow_none l most (by omega) (Or.inr (by omega)) hR h
    have DR : Hid (∀ W, Bl w W → Calls Try.prog 21 #[.string (M.bs l), .int .i64 most] W fun e w' => e = .returned (.tuple #[.slice none 0 0, .string ⟨#[]⟩, .bool false]) ∧ Bl w w') := fun W h => refReadRow_none l most (by omega) (Or.inr (by omega)) hR h
    have CS : Hid (∀ W, Bl w W → Calls Try.prog 22 #[.slice none 0 0, .slice none 0 0] W fun e w' => e = .returned (.bool true) ∧ Bl w w') := fun W h => by
      refine (same_b _ _ [] [] W.heap.size W.heap.size h (Or.inl ⟨rfl, none, 0, rfl⟩) (Or.inl ⟨rfl, none, 0, rfl⟩) (by simp)).mono ?_
      rintro e w' ⟨rfl, h3⟩
      exact ⟨by simp, h3⟩
    clear hR
  all_goals
    clear hml
    go_enter Try.func4, Try.ntmps4
    go_wp2_with (first
      | (go_at_call 9; refine (awake_b HB).mono ?_; clear HB; rintro e w' ⟨rfl, HB⟩)
      | (go_at_call 16; refine (CN.out _ HB).mono ?_; clear HB CN; rintro e w' ⟨rfl, HB⟩)
      | (go_at_call 17; refine (DN.out _ HB).mono ?_; clear HB DN; rintro e w' ⟨rfl, HB⟩)
      | (go_at_call 18; refine (CT.out _ HB).mono ?_; clear HB CT; rintro e w' ⟨rfl, HB⟩)
      | (go_at_call 19; refine (DT.out _ HB).mono ?_; clear HB DT; rintro e w' ⟨rfl, HB⟩)
      | (go_at_call 20; refine (CR.out _ HB).mono ?_; clear HB CR; first | rintro e w' ⟨rfl, HB⟩ | rintro e w' ⟨a1, c1, rfl, HS1, HB⟩)
      | (go_at_call 21; first | (refine (DR.out _ HB).mono ?_; clear HB DR; rintro e w' ⟨rfl, HB⟩) | (refine (DR.out _ _ HB HS1).mono ?_; clear HB HS1 DR; rintro e w' ⟨a2, c2, rfl, HS2, HS1, HB⟩))
      | (go_at_call 22; first | (refine (CS.out _ HB).mono ?_; clear HB CS; rintro e w' ⟨rfl, HB⟩) | (refine (CS.out _ _ _ HB HS1 HS2).mono ?_; clear HB HS1 HS2 CS; rintro e w' ⟨rfl, HB⟩)))
    go_ret
    exact ⟨by first | rfl | (simp; done), HB⟩

end Go.Proofs.Ytfpeohlfofcbjaa
