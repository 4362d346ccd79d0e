/- The stack's change and fold: what a function makes of the top. -/
import Derived.Test.YtodcafmhaleemaaDoorT3
namespace Go.Proofs.YtodcafmhaleemaaDoor
open Go.RowKit
set_option linter.unusedVariables false

set_option maxRecDepth 8000 in
set_option maxHeartbeats 1000000 in
/-- a function f, of this program's number k, with what it has captured; P: what must hold of memory for it -/
theorem change_at {w W : World} {b : Nat} {r : List Value} {v : Value} {st : List (List UInt8)} (k : FuncId) (caps : Array Value) (P : World → Prop) (f : List UInt8 → List UInt8)
    (hent : ∀ args w, (callFunc k args).run Tryd.prog w = .ok (.enter k args) w)
    (hP : P W) (hset : ∀ v', P W → P (W.setCell ⟨b, 0, none⟩ v')) (hl : ∀ t, t.length ≤ 512 → (f t).length ≤ 1000000)
    (hf : ∀ W' t, t.length ≤ 512 → GB w W' → P W' → Calls Tryd.prog k (#[.string (M.bs t)] ++ caps) W' fun e w' => e = .returned (.string (M.bs (f t))) ∧ Below W'.heap.size W' w')
    (h : SX w b r st v W) :
    Calls Tryd.prog 44 #[.pointer (some ⟨b, 0, none⟩), .func (.func k) #[] caps] W fun e w' => e = .returned (.int .i64 ((Q.change f st).1 : Int)) ∧ ∃ v', SX w b r (Q.change f st).2 v' w' := by
  have HH : Hid (SX w b r st v W) := h
  rcases st with _ | ⟨t, st⟩
  · clear h hf hP hset hl
    unfold Q.change
    go_enter Tryd.func44, Tryd.ntmps44
    go_wp2_with (go_at_call 27; refine (take_nil HH.out).mono ?_; rintro e w' ⟨rfl, rfl⟩)
    go_ret
    exact ⟨rfl, _, HH.out⟩
  · have ht := h.ok.2 t (by simp)
    have CT : Hid (Calls Tryd.prog 27 #[.pointer (some ⟨b, 0, none⟩)] W fun e w' => e = .returned (.tuple #[.string (M.bs t), .bool true]) ∧ ∃ v', SX w b r st v' w' ∧ P w') := by
      refine (take_cons h).mono ?_
      rintro e w' ⟨rfl, v', rfl, hs⟩
      exact ⟨rfl, v', hs, hset v' hP⟩
    have CF : Hid (∀ W' v', SX w b r st v' W' → P W' → Calls Tryd.prog k (#[.string (M.bs t)] ++ caps) W' fun e w' => e = .returned (.string (M.bs (f t))) ∧ SX w b r st v' w') := fun W' v' hs hp => by
      refine (hf W' t ht hs.g hp).mono ?_
      rintro e w' ⟨rfl, hb⟩
      exact ⟨rfl, hs.step hb⟩
    have CP : Hid (∀ W' v', SX w b r st v' W' → Calls Tryd.prog 38 #[.pointer (some ⟨b, 0, none⟩), .string (M.bs (f t))] W' fun e w' => e = .returned (.int .i64 ((Q.change f (t :: st)).1 : Int)) ∧ ∃ v', SX w b r (Q.change f (t :: st)).2 v' w') := fun W' v' hs => put_at (f t) hs (hl t ht)
    clear h hf hP hset hl HH
    generalize Q.change f (t :: st) = R at *
    generalize f t = ft at *
    go_enter Tryd.func44, Tryd.ntmps44
    go_wp2_with (first
      | (go_at_call 27; refine CT.out.mono ?_; clear CT; rintro e w' ⟨rfl, v1, HS, HP⟩)
      | (go_at_call 38; refine (CP.out _ _ HS).mono ?_; clear CP; rintro e w' ⟨rfl, HE⟩)
      | (go_at_fn k; refine (CF.out _ _ HS HP).mono ?_; clear CF HS HP; rintro e w' ⟨rfl, HS⟩))
    go_ret
    exact ⟨rfl, HE⟩
end Go.Proofs.YtodcafmhaleemaaDoor
