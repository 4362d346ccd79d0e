/- The law's own 'awake' is true. -/
import Derived.Test.YtodcafmhaleemaaDoorT14
import Derived.Test.YtodcafmhaleemaaDoorArgs
namespace Go.Proofs.YtodcafmhaleemaaDoor
open Go.RowKit
set_option linter.unusedVariables false

theorem run_ex1 : Q.run [105, 0, 105, 1, 99] [[97, 98], [99, 100]] = ⟨0, [97, 98, 99, 100], 3⟩ := by kernel_rfl
theorem run_ex2 : Q.run [103, 0] [] = ⟨30, [], 300⟩ := by kernel_rfl
theorem parse_ex : Q.parse [112, 2, 103, 111, 120] = some [[112, 2, 103, 111], [120]] := by kernel_rfl
theorem Run_b {w W : World} (code : List UInt8) (ins : List (List UInt8)) (a : Option Addr) (c : Nat) (hg : GB w W) (hT : Tab w) (hx : TX W a ins) (hl : code.length ≤ 9223372036854775807) (hn : ins.length ≤ 9223372036854775807) (hil : ∀ t ∈ ins, t.length ≤ 9223372036854775807) :
    Calls Tryd.prog 10 #[.string (M.bs code), .slice a ins.length c] W fun e w' => e = .returned (runV (Q.run code ins)) ∧ GB w w' ∧ Below W.heap.size W w' := by
  refine (Run_at code ins a c (GB.refl hg.g) (hT.below hg.b) hx hl hn hil).mono ?_
  rintro e w' ⟨rfl, h⟩
  exact ⟨rfl, hg.step h.b, h.b⟩
/-- a result in memory, kept -/
def ResAt (g : Nat) (code : Nat) (blob : List UInt8) (W : World) : Prop := W.cell? ⟨g, 0, none⟩ = some (.int .i64 (code : Int)) ∧ W.cell? ⟨g, 1, none⟩ = some (.string (M.bs blob))
theorem ResAt.new (W : World) (code : Nat) (blob : List UInt8) : ResAt W.heap.size code blob (W.alloc (.cells #[.int .i64 (code : Int), .string (M.bs blob)] 26)) :=
  ⟨by rw [cell_of_row _ _ _ _ _ _ (heap_alloc_new _ _)]; rfl, by rw [cell_of_row _ _ _ _ _ _ (heap_alloc_new _ _)]; rfl⟩
theorem ResAt.below {g code : Nat} {blob : List UInt8} {W W' : World} (h : ResAt g code blob W) (hb : Below W.heap.size W W') : ResAt g code blob W' := by
  have hg : g < W.heap.size := block_lt h.1
  exact ⟨by rw [hb.cell (p := ⟨g, 0, none⟩) hg]; exact h.1, by rw [hb.cell (p := ⟨g, 1, none⟩) hg]; exact h.2⟩
theorem TX.nil (W : World) (a : Option Addr) : TX W a [] := fun i t ht => by simp at ht
theorem tx_two (W : World) (x y : List UInt8) (T : TypeId) : TX (W.alloc (.cells #[.string (M.bs x), .string (M.bs y)] T)) (some ⟨W.heap.size, 0, none⟩) [x, y] := fun i t ht => by
  refine ⟨W.heap.size, 0, rfl, by simp, ?_⟩
  rw [cell_of_row _ _ _ _ _ _ (heap_alloc_new _ _)]
  rcases i with _ | _ | i
  · simp at ht; subst ht; rfl
  · simp at ht; subst ht; rfl
  · simp at ht
set_option maxRecDepth 8000 in
set_option maxHeartbeats 2000000 in
theorem awake_m {w W : World} (h : GB w W) (hT : Tab w) : Calls Tryd.prog 9 #[] W fun e w' => e = .returned (.bool true) ∧ GB w w' := by
  have CR1 : Hid (∀ W', GB w W' → Calls Tryd.prog 10 #[.string ⟨#[105, 0, 105, 1, 99]⟩, .slice (some ⟨W'.heap.size, 0, none⟩) 2 2] (W'.alloc (.cells #[.string ⟨#[97, 98]⟩, .string ⟨#[99, 100]⟩] 9)) fun e w' => e = .returned (.tuple #[.agg #[.int .i64 0, .string ⟨#[97, 98, 99, 100]⟩], .int .i64 3]) ∧ GB w w') := fun W' h => by
    have := Run_at [105, 0, 105, 1, 99] [[97, 98], [99, 100]] (some ⟨W'.heap.size, 0, none⟩) 2 (h.alloc (.cells #[.string (M.bs [97, 98]), .string (M.bs [99, 100])] 9)) (hT.below (h.alloc _).b) (tx_two _ _ _ _) (by decide) (by decide) (by decide)
    rw [run_ex1] at this
    exact this
  have CR2 : Hid (∀ w1, GB w w1 → Calls Tryd.prog 10 #[.string ⟨#[103, 0]⟩, .slice none 0 0] (w1.alloc (.cells #[.int .i64 0, .string ⟨#[97, 98, 99, 100]⟩] 26)) fun e w' => e = .returned (.tuple #[.agg #[.int .i64 30, .string ⟨#[]⟩], .int .i64 300]) ∧ GB w w' ∧ ResAt w1.heap.size 0 [97, 98, 99, 100] w') := fun w1 h => by
    have := Run_b [103, 0] [] none 0 (h.alloc (.cells #[.int .i64 0, .string (M.bs [97, 98, 99, 100])] 26)) hT (TX.nil _ _) (by decide) (by decide) (by decide)
    rw [run_ex2] at this
    refine this.mono ?_
    rintro e w' ⟨rfl, h1, h2⟩
    exact ⟨rfl, h1, (ResAt.new w1 0 [97, 98, 99, 100]).below h2⟩
  have CS : Hid (∀ g w2, GB w w2 → ResAt g 0 [97, 98, 99, 100] w2 → Calls Tryd.prog 12 #[.string ⟨#[112, 2, 103, 111, 120]⟩] (w2.alloc (.cells #[.int .i64 30, .string ⟨#[]⟩] 26)) fun e w' => ∃ sb off c, e = .returned (.tuple #[.slice (some ⟨sb, off, none⟩) 2 c, .int .i64 0]) ∧ w'.cell? ⟨sb, off, none⟩ = some (.string ⟨#[112, 2, 103, 111]⟩) ∧ GB w w' ∧ ResAt g 0 [97, 98, 99, 100] w' ∧ ResAt w2.heap.size 30 [] w') := fun g w2 h hr => by
    refine (Steps_at [112, 2, 103, 111, 120] _ (by decide)).mono ?_
    intro e w' hp
    unfold StP at hp
    rw [parse_ex] at hp
    obtain ⟨a, c, rfl, hs, hc, hb⟩ := hp
    obtain ⟨sb, off, rfl, _, h0⟩ := strs_at hs 0 [112, 2, 103, 111] rfl
    exact ⟨sb, off, c, rfl, h0, (h.alloc _).step hb, (hr.below ((Below.refl _ _).alloc (Nat.le_refl _) _)).below hb, (ResAt.new w2 30 []).below hb⟩
  have HG : Hid (GB w W) := h
  have hq : (M.bs [97, 98, 99, 100]).toList = [97, 98, 99, 100] := by rw [Lib.toList_data, M.bs_toList]
  clear h hT
  go_enter Tryd.func9, Tryd.ntmps9
  go_wp2_with (first
    | (go_at_call 10; refine (CR1.out _ HG.out).mono ?_; clear HG CR1; rintro e w1 ⟨rfl, hg⟩; have HG1 : Hid (GB w w1) := hg; clear hg)
    | (go_at_call 10; refine (CR2.out _ HG1.out).mono ?_; clear CR2; rintro e w2 ⟨rfl, hg, hr⟩; have HG2 : Hid (GB w w2) := hg; have HR2 : Hid (ResAt w1.heap.size 0 [97, 98, 99, 100] w2) := hr; clear hg hr)
    | (go_at_call 12; refine (CS.out _ _ HG2.out HR2.out).mono ?_; clear CS; rintro e w3 ⟨sb, off, c, rfl, h0, hg, hr1, hr2⟩; have HG3 : Hid (GB w w3) := hg; clear hg; obtain ⟨a0, a1⟩ := hr1; obtain ⟨b0, b1⟩ := hr2))
  go_ret
  exact ⟨rfl, HG3.out⟩
end Go.Proofs.YtodcafmhaleemaaDoor
