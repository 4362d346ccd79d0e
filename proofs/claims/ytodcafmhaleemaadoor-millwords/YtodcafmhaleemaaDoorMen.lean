/- MillEnds' walk. -/
import Derived.Test.YtodcafmhaleemaaDoorT15
import Derived.Test.YtodcafmhaleemaaDoorQM2
namespace Go.Proofs.YtodcafmhaleemaaDoor
open Go.RowKit
set_option linter.unusedVariables false

theorem TX.below {W W' : World} {a : Option Addr} {l : List (List UInt8)} (h : TX W a l) (hb : Below W.heap.size W W') : TX W' a l := fun i t ht => by
  obtain ⟨sb, off, h1, h2, h3⟩ := h i t ht
  exact ⟨sb, off, h1, by have := hb.size; omega, by rw [hb.cell (p := ⟨sb, off + i, none⟩) h2]; exact h3⟩
/-- a code run behind whatever the law has done -/
theorem Run_l {w : World} (code : List UInt8) (ins : List (List UInt8)) (a : Option Addr) (c : Nat) (hT : Tab w) (hx : TX w a ins) (hl : code.length ≤ 9223372036854775807) (hn : ins.length ≤ 9223372036854775807) (hil : ∀ t ∈ ins, t.length ≤ 9223372036854775807) :
    ∀ W', GB w W' → Calls Tryd.prog 10 #[.string (M.bs code), .slice a ins.length c] W' fun e w' => e = .returned (runV (Q.run code ins)) ∧ GB w w' ∧ Below W'.heap.size W' w' := fun W' h => Run_b code ins a c h hT (hx.below h.b) hl hn hil
theorem mill_many {p : Prop} (n : Nat) (hp : 40 < n → p) (hq : n ≤ 40 → p) : p := by
  rcases Nat.lt_or_ge 40 n with h | h
  · exact hp h
  · exact hq h
set_option maxRecDepth 8000 in
set_option maxHeartbeats 4000000 in
theorem millEnds_walk (code : List UInt8) (ins : List (List UInt8)) (a : Option Addr) (c : Nat) (W : World) (hG : GW W) (hT : Tab W) (hx : TX W a ins) (hl : code.length ≤ 9223372036854775807) (hn : ins.length ≤ 9223372036854775807) (hil : ∀ t ∈ ins, t.length ≤ 9223372036854775807) :
    Calls Tryd.prog 5 #[.string (M.bs code), .slice a ins.length c] W fun e w' => e = .returned (.bool true) ∧ Below W.heap.size W w' := by
  have CA : Hid (Calls Tryd.prog 9 #[] W fun e w' => e = .returned (.bool true) ∧ GB W w') := awake_m (GB.refl hG) hT
  have hs := M.bs_size code
  by_cases h40 : 40 < ins.length
  · clear hG hT hx hil
    go_enter Tryd.func5, Tryd.ntmps5
    go_wp2_with (go_at_call 9; refine CA.out.mono ?_; clear CA; rintro e w1 ⟨rfl, HG⟩)
    go_ret
    exact ⟨rfl, HG.b⟩
  · have hgd := Q.good_run code ins
    have CR : Hid (∀ W', GB W W' → Calls Tryd.prog 10 #[.string (M.bs code), .slice a ins.length c] W' fun e w' => e = .returned (runV (Q.run code ins)) ∧ GB W w' ∧ Below W'.heap.size W' w') := Run_l code ins a c hT hx hl hn hil
    generalize Q.run code ins = R at *
    obtain ⟨rc, rb, rn⟩ := R
    obtain ⟨g1, g2, g3, g4, g5⟩ := hgd
    simp only at g1 g2 g3 g4 g5
    unfold runV at CR
    simp only at CR
    have CR2 : Hid (∀ w1, GB W w1 → Calls Tryd.prog 10 #[.string (M.bs code), .slice a ins.length c] (w1.alloc (.cells #[.int .i64 (rc : Int), .string (M.bs rb)] 26)) fun e w' => e = .returned (.tuple #[.agg #[.int .i64 (rc : Int), .string (M.bs rb)], .int .i64 (rn : Int)]) ∧ GB W w' ∧ ResAt w1.heap.size rc rb w') := fun w1 h => by
      refine (CR.out _ (h.alloc _)).mono ?_
      rintro e w' ⟨rfl, h1, h2⟩
      exact ⟨rfl, h1, (ResAt.new w1 rc rb).below h2⟩
    have hsb := M.bs_size rb
    clear hG hT hx hil
    rcases g4 with rfl | rfl | rfl | rfl | rfl | rfl
    · clear g3 g5
      have hbq : ((M.bs rb).toList == (M.bs rb).toList) = true := by simp
      go_enter Tryd.func5, Tryd.ntmps5
      go_wp2_with (first
        | (go_at_call 9; refine CA.out.mono ?_; clear CA; rintro e w0 ⟨rfl, HG⟩; have HG0 : Hid (GB W w0) := HG; clear HG)
        | (go_at_call 10; refine (CR.out _ HG0.out).mono ?_; clear CR HG0; rintro e w1 ⟨rfl, HG, _⟩; have HG1 : Hid (GB W w1) := HG; clear HG)
        | (go_at_call 10; refine (CR2.out _ HG1.out).mono ?_; clear CR2; rintro e w2 ⟨rfl, HG, hr⟩; have HG2 : Hid (GB W w2) := HG; have a0 := fun o : Obj => (hr.below ((Below.refl _ w2).alloc (Nat.le_refl _) o)).1; have a1 := fun o : Obj => (hr.below ((Below.refl _ w2).alloc (Nat.le_refl _) o)).2; clear HG hr))
      go_ret
      exact ⟨rfl, HG2.out.b.alloc HG2.out.b.size _⟩
    · obtain rfl := g3 (by decide)
      clear g3 g5
      have hb0 : (M.bs []).toList = [] := by rw [Lib.toList_data, M.bs_toList]
      go_enter Tryd.func5, Tryd.ntmps5
      go_wp2_with (first
        | (go_at_call 9; refine CA.out.mono ?_; clear CA; rintro e w0 ⟨rfl, HG⟩; have HG0 : Hid (GB W w0) := HG; clear HG)
        | (go_at_call 10; refine (CR.out _ HG0.out).mono ?_; clear CR HG0; rintro e w1 ⟨rfl, HG, _⟩; have HG1 : Hid (GB W w1) := HG; clear HG)
        | (go_at_call 10; refine (CR2.out _ HG1.out).mono ?_; clear CR2; rintro e w2 ⟨rfl, HG, hr⟩; have HG2 : Hid (GB W w2) := HG; have a0 := fun o : Obj => (hr.below ((Below.refl _ w2).alloc (Nat.le_refl _) o)).1; have a1 := fun o : Obj => (hr.below ((Below.refl _ w2).alloc (Nat.le_refl _) o)).2; clear HG hr))
      go_ret
      exact ⟨rfl, HG2.out.b.alloc HG2.out.b.size _⟩
    · obtain rfl := g3 (by decide)
      clear g3 g5
      have hb0 : (M.bs []).toList = [] := by rw [Lib.toList_data, M.bs_toList]
      go_enter Tryd.func5, Tryd.ntmps5
      go_wp2_with (first
        | (go_at_call 9; refine CA.out.mono ?_; clear CA; rintro e w0 ⟨rfl, HG⟩; have HG0 : Hid (GB W w0) := HG; clear HG)
        | (go_at_call 10; refine (CR.out _ HG0.out).mono ?_; clear CR HG0; rintro e w1 ⟨rfl, HG, _⟩; have HG1 : Hid (GB W w1) := HG; clear HG)
        | (go_at_call 10; refine (CR2.out _ HG1.out).mono ?_; clear CR2; rintro e w2 ⟨rfl, HG, hr⟩; have HG2 : Hid (GB W w2) := HG; have a0 := fun o : Obj => (hr.below ((Below.refl _ w2).alloc (Nat.le_refl _) o)).1; have a1 := fun o : Obj => (hr.below ((Below.refl _ w2).alloc (Nat.le_refl _) o)).2; clear HG hr))
      go_ret
      exact ⟨rfl, HG2.out.b.alloc HG2.out.b.size _⟩
    · obtain rfl := g3 (by decide)
      clear g3 g5
      have hb0 : (M.bs []).toList = [] := by rw [Lib.toList_data, M.bs_toList]
      go_enter Tryd.func5, Tryd.ntmps5
      go_wp2_with (first
        | (go_at_call 9; refine CA.out.mono ?_; clear CA; rintro e w0 ⟨rfl, HG⟩; have HG0 : Hid (GB W w0) := HG; clear HG)
        | (go_at_call 10; refine (CR.out _ HG0.out).mono ?_; clear CR HG0; rintro e w1 ⟨rfl, HG, _⟩; have HG1 : Hid (GB W w1) := HG; clear HG)
        | (go_at_call 10; refine (CR2.out _ HG1.out).mono ?_; clear CR2; rintro e w2 ⟨rfl, HG, hr⟩; have HG2 : Hid (GB W w2) := HG; have a0 := fun o : Obj => (hr.below ((Below.refl _ w2).alloc (Nat.le_refl _) o)).1; have a1 := fun o : Obj => (hr.below ((Below.refl _ w2).alloc (Nat.le_refl _) o)).2; clear HG hr))
      go_ret
      exact ⟨rfl, HG2.out.b.alloc HG2.out.b.size _⟩
    · obtain rfl := g3 (by decide)
      obtain rfl := g5 rfl
      clear g3 g5
      have hb0 : (M.bs []).toList = [] := by rw [Lib.toList_data, M.bs_toList]
      go_enter Tryd.func5, Tryd.ntmps5
      go_wp2_with (first
        | (go_at_call 9; refine CA.out.mono ?_; clear CA; rintro e w0 ⟨rfl, HG⟩; have HG0 : Hid (GB W w0) := HG; clear HG)
        | (go_at_call 10; refine (CR.out _ HG0.out).mono ?_; clear CR HG0; rintro e w1 ⟨rfl, HG, _⟩; have HG1 : Hid (GB W w1) := HG; clear HG)
        | (go_at_call 10; refine (CR2.out _ HG1.out).mono ?_; clear CR2; rintro e w2 ⟨rfl, HG, hr⟩; have HG2 : Hid (GB W w2) := HG; have a0 := fun o : Obj => (hr.below ((Below.refl _ w2).alloc (Nat.le_refl _) o)).1; have a1 := fun o : Obj => (hr.below ((Below.refl _ w2).alloc (Nat.le_refl _) o)).2; clear HG hr))
      go_ret
      exact ⟨rfl, HG2.out.b.alloc HG2.out.b.size _⟩
    · obtain rfl := g3 (by decide)
      clear g3 g5
      have hb0 : (M.bs []).toList = [] := by rw [Lib.toList_data, M.bs_toList]
      go_enter Tryd.func5, Tryd.ntmps5
      go_wp2_with (first
        | (go_at_call 9; refine CA.out.mono ?_; clear CA; rintro e w0 ⟨rfl, HG⟩; have HG0 : Hid (GB W w0) := HG; clear HG)
        | (go_at_call 10; refine (CR.out _ HG0.out).mono ?_; clear CR HG0; rintro e w1 ⟨rfl, HG, _⟩; have HG1 : Hid (GB W w1) := HG; clear HG)
        | (go_at_call 10; refine (CR2.out _ HG1.out).mono ?_; clear CR2; rintro e w2 ⟨rfl, HG, hr⟩; have HG2 : Hid (GB W w2) := HG; have a0 := fun o : Obj => (hr.below ((Below.refl _ w2).alloc (Nat.le_refl _) o)).1; have a1 := fun o : Obj => (hr.below ((Below.refl _ w2).alloc (Nat.le_refl _) o)).2; clear HG hr))
      go_ret
      exact ⟨rfl, HG2.out.b.alloc HG2.out.b.size _⟩
end Go.Proofs.YtodcafmhaleemaaDoor
