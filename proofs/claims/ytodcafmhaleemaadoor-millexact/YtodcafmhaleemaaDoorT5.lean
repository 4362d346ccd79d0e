/- The stack's fold. -/
import Derived.Test.YtodcafmhaleemaaDoorT4
namespace Go.Proofs.YtodcafmhaleemaaDoor
open Go.RowKit
set_option linter.unusedVariables false

theorem fold1_at (k : FuncId) (f : List UInt8 → List UInt8 → List UInt8) (c1 c2 : Nat) (x t : List UInt8) (W : World) (hent : ∀ args w, (callFunc k args).run Tryd.prog w = .ok (.enter k args) w)
    (h1 : W.cell? ⟨c1, 0, none⟩ = some (.func (.func k) #[] #[])) (h2 : W.cell? ⟨c2, 0, none⟩ = some (.string (M.bs t)))
    (hf : Calls Tryd.prog k #[.string (M.bs x), .string (M.bs t)] W fun e w' => e = .returned (.string (M.bs (f x t))) ∧ Below W.heap.size W w') :
    Calls Tryd.prog 56 #[.string (M.bs x), .pointer (some ⟨c1, 0, none⟩), .pointer (some ⟨c2, 0, none⟩)] W fun e w' => e = .returned (.string (M.bs (f x t))) ∧ Below W.heap.size W w' := by
  have CF : Hid (Calls Tryd.prog k #[.string (M.bs x), .string (M.bs t)] W fun e w' => e = .returned (.string (M.bs (f x t))) ∧ Below W.heap.size W w') := hf
  clear hf
  generalize f x t = y at *
  go_enter Tryd.func56, Tryd.ntmps56
  go_wp2_with (go_at_fn k; refine CF.out.mono ?_; rintro e w' ⟨rfl, HB⟩)
  go_ret
  exact ⟨rfl, HB⟩

set_option maxRecDepth 8000 in
set_option maxHeartbeats 1000000 in
theorem fold_at {w W : World} {b : Nat} {r : List Value} {v : Value} {st : List (List UInt8)} (k : FuncId) (f : List UInt8 → List UInt8 → List UInt8)
    (hent : ∀ args w, (callFunc k args).run Tryd.prog w = .ok (.enter k args) w)
    (hl : ∀ x t, x.length ≤ 512 → t.length ≤ 512 → (f x t).length ≤ 1000000)
    (hf : ∀ W' x t, x.length ≤ 512 → t.length ≤ 512 → GB w W' → Calls Tryd.prog k #[.string (M.bs x), .string (M.bs t)] W' fun e w' => e = .returned (.string (M.bs (f x t))) ∧ Below W'.heap.size W' w')
    (h : SX w b r st v W) :
    Calls Tryd.prog 39 #[.pointer (some ⟨b, 0, none⟩), .func (.func k) #[] #[]] W fun e w' => e = .returned (.int .i64 ((Q.fold f st).1 : Int)) ∧ ∃ v', SX w b r (Q.fold f st).2 v' w' := by
  have HH : Hid (SX w b r st v (W.alloc (.cells #[.func (.func k) #[] #[]] 76))) := h.alloc _
  have hmf : ∀ (fn : Fn) (first cap : Array Value) (w : World), (Instr.makeFunc fn first cap).run Tryd.prog w = .ok (.func fn first cap) w := fun _ _ _ _ => rfl
  have hlt := h.lt
  rcases st with _ | ⟨t, st⟩
  · clear h hf hl
    unfold Q.fold
    go_enter Tryd.func39, Tryd.ntmps39
    go_wp2_with (go_at_call 27; refine (take_nil HH.out).mono ?_; rintro e w' ⟨rfl, rfl⟩)
    go_ret
    exact ⟨rfl, _, HH.out.alloc _⟩
  · have ht := h.ok.2 t (by simp)
    have hne : W.heap.size ≠ b := by omega
    have CT : Hid (Calls Tryd.prog 27 #[.pointer (some ⟨b, 0, none⟩)] (W.alloc (.cells #[.func (.func k) #[] #[]] 76)) fun e w' => e = .returned (.tuple #[.string (M.bs t), .bool true]) ∧ ∃ v', SX w b r st v' w' ∧ w'.cell? ⟨W.heap.size, 0, none⟩ = some (.func (.func k) #[] #[])) := by
      refine (take_cons HH.out).mono ?_
      rintro e w' ⟨rfl, v', hw', hs⟩
      refine ⟨rfl, v', hs, ?_⟩
      rw [hw', World.cell?_of_block (w := W.alloc (.cells #[.func (.func k) #[] #[]] 76)) (Below.heap_setCell _ _ _ _ hne)]
      exact cell_new1 _ _ _
    have CC : Hid (∀ w' v', SX w b r st v' w' → w'.cell? ⟨W.heap.size, 0, none⟩ = some (.func (.func k) #[] #[]) → Calls Tryd.prog 44 #[.pointer (some ⟨b, 0, none⟩), .func (.func 56) #[] #[.pointer (some ⟨W.heap.size, 0, none⟩), .pointer (some ⟨w'.heap.size, 0, none⟩)]] (w'.alloc (.cells #[.string (M.bs t)] 9)) fun e w'' => e = .returned (.int .i64 ((Q.fold f (t :: st)).1 : Int)) ∧ ∃ v'', SX w b r (Q.fold f (t :: st)).2 v'' w'') := fun w' v' hs hc => by
      have hcl : W.heap.size < w'.heap.size := World.block_lt_of_cell? w' ⟨W.heap.size, 0, none⟩ hc
      have hsl := hs.lt
      refine change_at (st := st) 56 _ (fun W' => W'.cell? ⟨W.heap.size, 0, none⟩ = some (.func (.func k) #[] #[]) ∧ W'.cell? ⟨w'.heap.size, 0, none⟩ = some (.string (M.bs t))) (fun x => f x t) (enters_of Tryd.func56 (by kernel_rfl) rfl) ⟨?_, cell_new1 _ _ _⟩ ?_ (fun x hx => hl x t hx ht) ?_ (hs.alloc _)
      · rw [World.cell?_of_block (w := w') (Below.heap_alloc _ _ _ hcl)]; exact hc
      · rintro v2 ⟨h1, h2⟩
        refine ⟨?_, ?_⟩
        · rw [World.cell?_of_block (w := w'.alloc (.cells #[.string (M.bs t)] 9)) (Below.heap_setCell _ _ _ _ hne)]; exact h1
        · rw [World.cell?_of_block (w := w'.alloc (.cells #[.string (M.bs t)] 9)) (Below.heap_setCell _ _ _ _ (show w'.heap.size ≠ b by omega))]; exact h2
      · rintro W' x hx hg ⟨h1, h2⟩
        exact fold1_at k f _ _ x t W' hent h1 h2 (hf W' x t hx ht hg)
    clear HH h hf hl
    generalize Q.fold f (t :: st) = R at *
    go_enter Tryd.func39, Tryd.ntmps39
    go_wp2_with (first
      | (go_at_call 27; refine CT.out.mono ?_; clear CT; rintro e w' ⟨rfl, v', HS, HC⟩; have HS : Hid (SX w b r st v' w') := HS; have HC : Hid (w'.cell? ⟨W.heap.size, 0, none⟩ = some (.func (.func k) #[] #[])) := HC)
      | (go_at_call 44; refine (CC.out _ _ HS.out HC.out).mono ?_; clear CC; rintro e w' ⟨rfl, HE⟩))
    go_ret
    exact ⟨rfl, HE⟩
end Go.Proofs.YtodcafmhaleemaaDoor
