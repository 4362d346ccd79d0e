/- What mill.Steps answers. -/
import Derived.Test.YtodcafmhaleemaaDoorT13
namespace Go.Proofs.YtodcafmhaleemaaDoor
open Go.RowKit
set_option linter.unusedVariables false

theorem Steps_long (code : List UInt8) (W : World) (h : 64 < code.length) (hl : code.length ≤ 9223372036854775807) :
    Calls Tryd.prog 12 #[.string (M.bs code)] W fun e w' => e = .returned (.tuple #[.slice none 0 0, .int .i64 4]) ∧ w' = W := by
  have hs := M.bs_size code
  go_enter Tryd.func12, Tryd.ntmps12
  go_wp2_with fail
  go_ret2
  exact ⟨rfl, rfl⟩
/-- what Steps answers of a code that isn't too long -/
def StP (code : List UInt8) (W : World) (e : Ending) (w' : World) : Prop :=
  match Q.parse code with
  | none => e = .returned (.tuple #[.slice none 0 0, .int .i64 32]) ∧ Below W.heap.size W w'
  | some l => ∃ a c, e = .returned (.tuple #[.slice a l.length c, .int .i64 0]) ∧ Strs w'.heap.size w' (.slice a l.length c) l ∧ l.length ≤ c ∧ Below W.heap.size W w'
theorem StP.none {code : List UInt8} {W w' : World} (h : Q.parse code = none) (hb : Below W.heap.size W w') : StP code W (.returned (.tuple #[.slice none 0 0, .int .i64 32])) w' := by
  unfold StP; rw [h]; exact ⟨rfl, hb⟩
theorem StP.some {code : List UInt8} {W w' : World} {l : List (List UInt8)} {a : Option Addr} {c : Nat} (h : Q.parse code = some l) (hs : Strs w'.heap.size w' (.slice a l.length c) l) (hc : l.length ≤ c) (hb : Below W.heap.size W w') : StP code W (.returned (.tuple #[.slice a l.length c, .int .i64 0])) w' := by
  unfold StP; rw [h]; exact ⟨a, c, rfl, hs, hc, hb⟩
theorem owns_capM {w : World} {N k n c : Nat} {e : TypeId} {a : Option Addr} {xs : List Value} (h : w.ownsRow N e k (.slice a n c) n xs) : n ≤ c := by
  obtain ⟨_, ⟨h1, h2⟩ | ⟨g, cap, cur, h1, _, _, h4, _⟩⟩ := h
  · omega
  · simp only [Value.slice.injEq] at h1
    omega
set_option maxRecDepth 8000 in
set_option maxHeartbeats 2000000 in
theorem Steps_at (code : List UInt8) (W : World) (hl : code.length ≤ 64) :
    Calls Tryd.prog 12 #[.string (M.bs code)] W fun e w' => StP code W e w' := by
  have hs := M.bs_size code
  obtain ⟨i0, hi, hz0, hz1, hz2⟩ := info_partsM (show (Tryd.prog.info? 9).map (fun i => (i.zero, i.size, i.bytes)) = some (some (.string ByteArray.empty), 1, 16) by kernel_rfl)
  have HOW0 : Hid (W.ownsRow W.heap.size 9 1 (.slice none 0 0) ([] : List (List UInt8)).length (([] : List (List UInt8)).map encS)) := World.ownsRow_nil _ _ _ _
  have HP0 : Hid (Q.parse code = (Q.parse (code.drop 0)).map (fun l => [] ++ l)) := by
    show _ = _
    rw [List.drop_zero]
    cases Q.parse code <;> rfl
  have HI : Hid (Tryd.prog.info? 9 = some i0) := hi
  clear hi
  go_enter Tryd.func12, Tryd.ntmps12
  go_wp2_with fail
  go_loopw [4, 5, 6, 7] (fun u4 u5 u6 u7 wr => ∃ (k : Nat) (acc : List (List UInt8)), k ≤ code.length ∧ acc.length ≤ k ∧ u5 = .int .i64 (k : Int) ∧ wr.ownsRow W.heap.size 9 1 u4 acc.length (acc.map encS) ∧ Below W.heap.size W wr ∧ Q.parse code = (Q.parse (code.drop k)).map (fun l => acc ++ l)) (fun _ u5 _ _ _ => code.length - (intOf u5).toNat)
  case atStart => exact ⟨0, [], by omega, by simp, rfl, HOW0.out, Below.refl _ _, HP0.out⟩
  case round =>
    obtain ⟨k, acc, hk, hak, rfl, hown, hbe, hpar⟩ := hrel
    clear HOW0 HP0
    by_cases hlt : k < code.length
    · have hne : code.drop k ≠ [] := fun e => by have := congrArg List.length e; rw [List.length_drop] at this; simp at this; omega
      have hq : (k : Int) < (code.length : Int) := by omega
      have CS : Hid (∀ W, Calls Tryd.prog 21 #[.string (M.bs code), .int .i64 (k : Int)] W fun e w' => e = .returned (saV (Q.stepAt code k)) ∧ w' = W) := fun W => stepAt_at code k (by omega) (by omega) W
      rw [Q.parse_cons hne] at hpar
      have HBE : Hid (Below W.heap.size W wr) := hbe
      have hszw := hbe.size
      unfold Q.stepAt at CS
      cases hst : Q.first (code.drop k) with
      | none =>
        rw [hst] at CS hpar
        unfold saV at CS
        have HN : Hid (Q.parse code = none) := hpar
        clear hpar hst hne hown hbe
        go_wp2_with (go_at_call 21; refine (CS.out _).mono ?_; rintro e w' ⟨rfl, rfl⟩)
        go_ret2
        exact StP.none HN.out HBE.out
      | some s =>
        have hsl := (Q.first_some hst).2.1
        have hs0 := Q.first_len hst
        rw [List.length_drop] at hsl
        rw [hst] at CS hpar
        unfold saV at CS
        simp only [List.drop_drop] at hpar
        have HPN : Hid (Q.parse code = (Q.parse (code.drop (k + s.length))).map (fun l => (acc ++ [s]) ++ l)) := by
          show _ = _
          rw [hpar]
          cases Q.parse (code.drop (k + s.length)) <;> simp
        have hbs := M.bs_size s
        have HOW2 : Hid ((wr.alloc (.cells #[.string (M.bs s)] 9)).ownsRow W.heap.size 9 1 u4 acc.length (acc.map encS)) := World.ownsRow.alloc (w := wr) hown _
        have HBE2 : Hid (Below W.heap.size W (wr.alloc (.cells #[.string (M.bs s)] 9))) := HBE.out.alloc hszw _
        have HLT : Hid (∀ q, u4.ownBlock = some q → W.heap.size ≤ q) := fun q hq => (hown.lt q hq).1
        clear hpar hst hne hown hbe HBE
        go_wp2_with (first
          | (go_at_call 21; refine (CS.out _).mono ?_; clear CS; rintro e w' ⟨rfl, rfl⟩)
          | (at_builtin; refine wpList_append_own _ rfl _ _ 22 rfl W.heap.size 9 i0 (.string ByteArray.empty) 1 16 Tryd.underlying22 HI.out hz0 hz1 hz2 rfl (by decide) _ _ _ rfl HOW2.out ⟨_, 0, none⟩ 1 1 [.string (M.bs s)] rfl rfl (cell_one_new _ _ _) (fun x hx => by simp at hx; subst hx; rfl) (by unfold maxLen; omega) (by omega) (by simp; omega) ?_; intro v' w5 hown5 hg5 _
             have HB5 : Hid (Below W.heap.size W w5) := HBE2.out.grown hg5 (by simp; omega) (fun q hq => HLT.out q hq)
             have HO5 : Hid (w5.ownsRow W.heap.size 9 1 v' (acc ++ [s]).length ((acc ++ [s]).map encS)) := by
               show World.ownsRow _ _ _ _ _ _ _
               rw [List.map_append, List.length_append]; exact hown5
             clear hown5 hg5 HBE2 HOW2 HLT))
        go_roundw
        case rel => exact ⟨k + s.length, acc ++ [s], by omega, by simp; omega, by go_num, HO5.out, HB5.out, HPN.out⟩
        case measure => simp [intOf]; omega
    · obtain rfl : k = code.length := by omega
      rw [List.drop_of_length_le (Nat.le_refl _), Q.parse_nil] at hpar
      have HN : Hid (Q.parse code = some acc) := by
        show _ = _
        rw [hpar]; simp
      have HST : Hid (Strs wr.heap.size wr u4 acc) := strs_of_owns hown
      obtain ⟨a, c, rfl⟩ : ∃ a c, u4 = .slice a acc.length c := HST.out.shape
      have HCP : Hid (acc.length ≤ c) := owns_capM hown
      have HBE : Hid (Below W.heap.size W wr) := hbe
      clear hown hpar hbe
      go_wp2_with fail
      go_ret2
      exact StP.some HN.out HST.out HCP.out HBE.out
end Go.Proofs.YtodcafmhaleemaaDoor
