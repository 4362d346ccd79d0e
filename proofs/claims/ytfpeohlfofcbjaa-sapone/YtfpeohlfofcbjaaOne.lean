/- SapOne: what is read off a text is written as just the bytes that were read: the law answers true for every text. No condition. -/
import Derived.Test.YtfpeohlfofcbjaaW8
import Derived.Test.YtfpeohlfofcbjaaRows
namespace Go.Proofs.Ytfpeohlfofcbjaa
open Go.RowKit
set_option linter.unusedVariables false

set_option maxHeartbeats 1000000 in
theorem sapOne_long (s : ByteArray) (w : World) (hl : 4096 < s.size) (hm : s.size ≤ maxLen) :
    Calls Try.prog 6 #[.string s] w fun e w' => e = .returned (.bool true) ∧ Below w.heap.size w w' := by
  have HB : Hid (Bl w w) := Bl.refl w
  unfold maxLen at hm
  go_enter Try.func6, Try.ntmps6
  go_wp2_with (go_at_call 9; refine (awake_b HB.out).mono ?_; clear HB; rintro e w' ⟨rfl, HB⟩)
  go_ret
  exact ⟨rfl, HB⟩

set_option maxHeartbeats 4000000 in
theorem sapOne_walk (l : List UInt8) (w : World) (hl : l.length ≤ 4096) :
    Calls Try.prog 6 #[.string (M.bs l)] w fun e w' => e = .returned (.bool true) ∧ Below w.heap.size w w' := by
  have HB : Bl w w := Bl.refl w
  have hsz := M.bs_size l
  have hml : l.length ≤ maxLen := by unfold maxLen; omega
  have CN : Hid (∀ W, Bl w W → Calls Try.prog 16 #[.string (M.bs l)] W fun e w' => e = .returned (rnV (M.readNum l)) ∧ Bl w w') := fun W h => readNum_b l hml h
  have CT : Hid (∀ W, Bl w W → Calls Try.prog 18 #[.string (M.bs l), .int .i64 4096] W fun e w' => e = .returned (rtV (M.readText l 4096)) ∧ Bl w w') := fun W h => readText_b l 4096 hml h
  -- what each reading comes to
  cases hN : M.readNum l
  rotate_left
  rename_i xN
  obtain ⟨n, rN⟩ := xN
  obtain ⟨eN, hn1, hn2⟩ := M.readNum_some _ _ _ hN
  have hjN : M.bs (M.numB n) ++ M.bs rN = M.bs l := by rw [bs_append, eN]
  have hzN := M.bs_size (M.numB n)
  have hzN2 := M.bs_size rN
  have hlN := M.numB_len n
  have hlN2 : rN.length ≤ 4096 := by have := congrArg List.length eN; rw [List.length_append] at this; omega
  clear eN
  all_goals
    rw [hN] at CN
    simp only [rnV] at CN
    clear hN
    cases hT : M.readText l 4096
    rotate_left
    rename_i xT
    obtain ⟨t, rT⟩ := xT
    obtain ⟨eT, hn3⟩ := M.readText_some _ _ _ _ hT
    have hjT : M.bs (M.textB t) ++ M.bs rT = M.bs l := by rw [bs_append, eT]
    have hzT := M.bs_size (M.textB t)
    have hzT2 := M.bs_size rT
    have hlT : (M.textB t).length ≤ 4096 ∧ rT.length ≤ 4096 := by have := congrArg List.length eT; rw [List.length_append] at this; omega
    clear eT
  all_goals
    rw [hT] at CT
    simp only [rtV] at CT
    clear hT
    cases hR : M.readRow l 4096
    rotate_left
    rename_i xR
    obtain ⟨ls, rR⟩ := xR
    obtain ⟨eR, hn5⟩ := M.readRow_some _ _ _ _ hR
    have hjR : M.bs (M.rowB ls) ++ M.bs rR = M.bs l := by rw [bs_append, eR]
    have hzR := M.bs_size (M.rowB ls)
    have hzR2 := M.bs_size rR
    have hlR : (M.rowB ls).length ≤ 4096 ∧ rR.length ≤ 4096 := by have := congrArg List.length eR; rw [List.length_append] at this; omega
    have CR : Hid (∀ W, Bl w W → Calls Try.prog 20 #[.string (M.bs l), .int .i64 4096] W fun e w' => ∃ a c, e = .returned (.tuple #[.slice a ls.length c, .string (M.bs rR), .bool true]) ∧ Strs w'.heap.size w' (.slice a ls.length c) ls ∧ Bl w w') := fun W h => readRow_yes l 4096 (by omega) (Or.inl (by omega)) ls rR hR h
    clear eR hR
    rotate_left
    have CR : Hid (∀ W, Bl w W → Calls Try.prog 20 #[.string (M.bs l), .int .i64 4096] W fun e w' => e = .returned (.tuple #[.slice none 0 0, .string ⟨#[]⟩, .bool false]) ∧ Bl w w') := fun W h => readRow_none l 4096 (by omega) (Or.inl (by omega)) hR h
    clear hR
  all_goals
    clear hml
    go_enter Try.func6, Try.ntmps6
    go_wp2_with (first
      | (go_at_call 9; refine (awake_b HB).mono ?_; clear HB; rintro e w' ⟨rfl, HB⟩)
      | (go_at_call 16; refine (CN.out _ HB).mono ?_; clear HB CN; rintro e w' ⟨rfl, HB⟩)
      | (go_at_call 10; refine (num_b _ HB (by omega) (by omega)).mono ?_; clear HB; rintro e w' ⟨rfl, HB⟩)
      | (go_at_call 18; refine (CT.out _ HB).mono ?_; clear HB CT; rintro e w' ⟨rfl, HB⟩)
      | (go_at_call 12; refine (text_b _ HB (by omega)).mono ?_; clear HB; rintro e w' ⟨rfl, HB⟩)
      | (go_at_call 20; refine (CR.out _ HB).mono ?_; clear HB CR; first | rintro e w' ⟨rfl, HB⟩ | rintro e w' ⟨a, c, rfl, HS, HB⟩)
      | (go_at_call 14; refine (row_b _ ls HB HS (by omega) (by omega)).mono ?_; clear HB HS; rintro e w' ⟨rfl, HB⟩))
    go_ret
    exact ⟨rfl, HB⟩

end Go.Proofs.Ytfpeohlfofcbjaa
