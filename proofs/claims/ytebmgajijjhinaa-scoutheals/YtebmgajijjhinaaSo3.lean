/- What a scout's known has: of, remind, isPresent. -/
import Derived.Test.YtebmgajijjhinaaSo0
import Derived.Test.YtebmgajijjhinaaSo2
import Derived.Deep.RegionWith
import Derived.Laws.Tables
import Derived.Great.BuildSlice
namespace Go.Proofs.Ytebmgajijjhinaa
open Go.RowKit Go.Maps
set_option linter.unusedVariables false
set_option linter.unusedSimpArgs false

/-- a scout behind a call: its blocks are as before or new -/
def SX (w : World) (p : Nat) (B : Nat → Prop) (W : World) (N : Nat) (s : SO.Sc) (w' : World) : Prop := ∃ B', SC w p B' N s w' ∧ OS B B' W w'
theorem SX.refl {w W : World} {p : Nat} {B : Nat → Prop} {N : Nat} {s : SO.Sc} (x : SC w p B N s W) : SX w p B W N s W := ⟨B, x, OS.refl B W⟩
theorem SX.of {w W : World} {p : Nat} {P : Pl} {B B' : Nat → Prop} {N : Nat} {s : SO.Sc} {w' : World} (x : S0 w p P B' N s w') (o : OS B B' W w') : SX w p B W N s w' := ⟨B', ⟨P, x⟩, o⟩
theorem SX.trans {w W W1 W2 : World} {p : Nat} {B B1 : Nat → Prop} {N : Nat} {s : SO.Sc} (o : OS B B1 W W1) (x : SX w p B1 W1 N s W2) : SX w p B W N s W2 := by
  obtain ⟨B2, h1, h2⟩ := x
  exact ⟨B2, h1, o.trans h2⟩
theorem SX.more {w W W1 : World} {p : Nat} {B : Nat → Prop} {N M : Nat} {s : SO.Sc} (x : SX w p B W N s W1) (h : N ≤ M) : SX w p B W M s W1 := by
  obtain ⟨B2, ⟨P, h1⟩, h2⟩ := x
  exact ⟨B2, ⟨P, h1.more h⟩, h2⟩
theorem SX.grow {w W W1 W2 : World} {p : Nat} {B : Nat → Prop} {N : Nat} {s : SO.Sc} (x : SX w p B W N s W1) (h : Bl W1 W2) : SX w p B W N s W2 := by
  obtain ⟨B2, ⟨P, h1⟩, h2⟩ := x
  exact ⟨B2, ⟨P, h1.grow h⟩, h2.trans (OS.of_bl h)⟩
theorem of1_setRow (W : World) (b : Nat) (cs : Array Value) : Of1 b W (W.setRow b cs) := ⟨rfl, rfl, rfl, by simp [World.setRow], fun k _ hk => setRow_other W b k cs hk⟩
theorem S0.cB {w W : World} {p : Nat} {P : Pl} {B : Nat → Prop} {N : Nat} {s : SO.Sc} (x : S0 w p P B N s W) (i : Nat) (u : Value) (h : (P.cells s)[i]? = some u) : ∀ W', Bl W W' → W'.cell? ⟨p, i, none⟩ = some u := fun W' hb => (x.grow hb).c i u h
set_option maxRecDepth 8000 in
theorem of_x {w W : World} {p : Nat} {P : Pl} {B : Nat → Prop} {N : Nat} {s : SO.Sc} (x : S0 w p P B N s W) (k : Int) (hk : i64 k) :
    Calls Try.prog 20 #[.pointer (some ⟨p, 0, none⟩), .int .i64 k] W fun e w' => e = .returned (.agg (meV (SO.of s k))) ∧ Bl W w' := by
  have c0 := (x.grow ((Bl.refl W).alloc (.cells #[.int .i64 0, .int .i64 0, .int .i64 0] 54))).c0
  have C1 : Hid (∀ W', Bl W W' → Calls Try.prog 37 #[.pointer (some ⟨P.q, 0, none⟩), .int .i64 k] W' fun e w' => e = .returned (.tuple #[.agg (meV (SO.of s k)), .bool (s.f k).isSome]) ∧ Bl W' w') := fun W' hb => Get_x (x.vt.grow hb) k hk
  generalize SO.of s k = m at *
  generalize (s.f k).isSome = y at *
  generalize P.q = q at *
  have HB : Bl W (W.alloc (.cells #[.int .i64 0, .int .i64 0, .int .i64 0] 54)) := (Bl.refl W).alloc _
  obtain ⟨n, i, st⟩ := m
  unfold meV at *
  simp only at *
  obtain ⟨fs, hum⟩ := undMe
  clear x
  go_enter Try.func20, Try.ntmps20
  go_wp2_with (first
    | (go_at_call 37; refine (C1.out _ HB).mono ?_; clear C1 c0; rintro e w1 ⟨rfl, hb⟩; have H0 := hidI ((Below.heap_alloc w1 (.cells #[.int .i64 n, .int .i64 i, .int .i64 st] 54) _ (lt_heap hb.box)).trans hb.box); have H1 := hidI ((HB.step hb).alloc (.cells #[.int .i64 n, .int .i64 i, .int .i64 st] 54)); clear hb HB)
    | (refine wpList_store_row rfl 54 _ _ rfl W.heap.size #[.int .i64 n, .int .i64 i, .int .i64 st] rfl rfl 54 _ H0.out infoMe rfl (by simp [Value.oneCell']) ?_))
  (try simp only [Exit.inBlock, Exit.then])
  refine bodyPost_ret (results_cell_row rfl _ _ _ 54 #[.int .i64 n, .int .i64 i, .int .i64 st] (0, 0) _ rfl (setRow_heap _ _ _ _ _ _ H0.out) hum rfl infoMe) rfl ?_
  exact ⟨rfl, (of1_setRow _ _ _).bl H1.out (Nat.le_refl _)⟩
/-- what is told on anew -/
theorem S0.push1 {w W : World} {p : Nat} {P : Pl} {B : Nat → Prop} {N : Nat} {s : SO.Sc} (x : S0 w p P B N s W) {m : K.Me} {a : Option Addr} (c : Nat) (hr : RS lyM W a [m]) (ha : ∀ g off, a = some ⟨g, off, none⟩ → ¬ B g) :
    Calls Try.prog 38 #[.pointer (some ⟨P.h, 0, none⟩), .slice a 1 c] W fun e w' => e = .returned (.tuple #[]) ∧ ∃ v', S0 w p { P with v := v' } (fun k => B k ∨ v'.ownBlock = some k) N { s with F := HU.put 5 s.F m } w' ∧ OS B (fun k => B k ∨ v'.ownBlock = some k) W w' := by
  refine (Push_x x.hl [m] a c hr (fun _ q off e => ⟨fun e2 => ha q off e (e2 ▸ x.Bh), fun e2 => ha q off e (x.Bv q e2.symm)⟩) (by simp)).mono ?_
  rintro e w' ⟨rfl, v', h1, h2⟩
  obtain ⟨h3, h4⟩ := x.hum h1 h2
  exact ⟨rfl, v', h3, h4⟩
set_option maxRecDepth 8000 in
set_option maxHeartbeats 1000000 in
theorem remind_x {w W : World} {p : Nat} {P : Pl} {B : Nat → Prop} {N : Nat} {s : SO.Sc} (x : S0 w p P B N s W) (k : Int) (hk : i64 k) :
    Calls Try.prog 21 #[.pointer (some ⟨p, 0, none⟩), .int .i64 k] W fun e w' => e = .returned (.tuple #[]) ∧ SX w p B W N (SO.remind s k) w' := by
  have C1 : Hid (∀ W', Bl W W' → Calls Try.prog 20 #[.pointer (some ⟨p, 0, none⟩), .int .i64 k] W' fun e w' => e = .returned (.agg (meV (SO.of s k))) ∧ Bl W' w') := fun W' hb => of_x (x.grow hb) k hk
  have C2 : Hid (∀ W', Bl W W' → Calls Try.prog 38 #[.pointer (some ⟨P.h, 0, none⟩), .slice (some ⟨W'.heap.size, 0, none⟩) 1 1] (W'.alloc (.cells (meV (SO.of s k)) 54)) fun e w' => e = .returned (.tuple #[]) ∧ SX w p B W N (SO.remind s k) w' ∧ w'.cell? ⟨p, 1, none⟩ = some (.pointer (some ⟨P.h, 0, none⟩))) := fun W' hb => by
    have x1 := (x.grow hb).grow ((Bl.refl W').alloc (.cells (meV (SO.of s k)) 54))
    refine (x1.push1 1 (RS.one lyM W' 54 (SO.of s k)) (fun g off e hB => ?_)).mono ?_
    · have := ((x.grow hb).Bo g hB).2
      simp only [Option.some.injEq, Addr.mk.injEq] at e
      omega
    · rintro e w' ⟨rfl, v', h1, h2⟩
      exact ⟨rfl, SX.of h1 ((OS.of_bl (hb.alloc _)).trans h2), h1.c1⟩
  have c1B : Hid (∀ W', Bl W W' → W'.cell? ⟨p, 1, none⟩ = some (.pointer (some ⟨P.h, 0, none⟩))) := fun W' hb => (x.grow hb).c1
  generalize SO.remind s k = s' at *
  generalize SO.of s k = m at *
  generalize P.h = h at *
  obtain ⟨n, i, st⟩ := m
  unfold meV at *
  simp only at *
  have HB : Bl W (W.drewN 1) := (Bl.refl W).drewN 1
  clear x
  go_enter Try.func21, Try.ntmps21
  go_wp2_with fail
  refine wp_region_noPanic ?_
  refine wp_region_held_drew (S := fun U => U.cell? ⟨p, 1, none⟩ = some (.pointer (some ⟨h, 0, none⟩))) (by kernel_rfl) ((by first | exact c1B.out _ HB | exact HB.2)) (fun hHeld => ?_)
  refine wpAnyH_take (i := 0) rfl (by kernel_rfl) (by kernel_rfl) (by kernel_rfl) (fun _ _ _ h => h) (yi_move (by kernel_rfl) rfl rfl) (by assumption) ?_
  simp only [Act.put, List.getElem_toArray, List.getElem_cons_succ, List.getElem_cons_zero, List.setIfInBounds_toArray, List.set_cons_zero, List.set_cons_succ]
  refine wpAnyH_take (i := 1) (v := ?_) rfl (by kernel_rfl) (by kernel_rfl) (by kernel_rfl) (fun _ _ _ h => h) (Or.inl ⟨by kernel_rfl, ?_⟩) (by assumption) ?_
  rotate_left
  · (intro w hSw; (try dsimp only at hSw); go_simp; (try with_reducible rfl))
  simp only [Act.put, List.getElem_toArray, List.getElem_cons_succ, List.getElem_cons_zero, List.setIfInBounds_toArray, List.set_cons_zero, List.set_cons_succ]
  refine wpAnyH_take (i := 2) (v := ?_) rfl (by kernel_rfl) (by kernel_rfl) (by kernel_rfl) (fun _ _ _ h => h) (Or.inl ⟨by kernel_rfl, ?_⟩) (by assumption) ?_
  rotate_left
  · (intro w hSw; (try dsimp only at hSw); go_simp; (try with_reducible rfl))
  simp only [Act.put, List.getElem_toArray, List.getElem_cons_succ, List.getElem_cons_zero, List.setIfInBounds_toArray, List.set_cons_zero, List.set_cons_succ]
  refine wpAnyH_take (i := 3) (v := ?_) rfl (by kernel_rfl) (by kernel_rfl) (by kernel_rfl) (fun _ _ _ h => h) (Or.inl ⟨by kernel_rfl, ?_⟩) (by assumption) ?_
  rotate_left
  · (intro w hSw; (try dsimp only at hSw); go_simp; (try with_reducible rfl))
  simp only [Act.put, List.getElem_toArray, List.getElem_cons_succ, List.getElem_cons_zero, List.setIfInBounds_toArray, List.set_cons_zero, List.set_cons_succ]
  refine wpAnyH_take (i := 4) rfl (by kernel_rfl) (by kernel_rfl) (by kernel_rfl) (fun _ _ _ h => h) (yi_move (by kernel_rfl) rfl rfl) (by assumption) ?_
  simp only [Act.put, List.getElem_toArray, List.getElem_cons_succ, List.getElem_cons_zero, List.setIfInBounds_toArray, List.set_cons_zero, List.set_cons_succ]
  refine wpAnyH_take (i := 5) rfl (by kernel_rfl) (by kernel_rfl) (by kernel_rfl) (fun _ _ _ h => h) (yi_move (by kernel_rfl) rfl rfl) (by assumption) ?_
  simp only [Act.put, List.getElem_toArray, List.getElem_cons_succ, List.getElem_cons_zero, List.setIfInBounds_toArray, List.set_cons_zero, List.set_cons_succ]
  refine wpAnyH_ready (rs := [6]) (by kernel_rfl) (by simp) ?_
  refine AllReadyH.cons (o := _) rfl (fun K hK => ?_) AllReadyH.nil
  go_simp
  go_at_call 20; refine (C1.out _ HB).mono ?_; rintro e V7 ⟨rfl, hb7⟩; have HB7 := (HB).step hb7
  refine hK.out _ _ ((by first | exact c1B.out _ HB7 | exact HB7.2)) (fun hHeld => ?_)
  clear hK K
  (try simp only [Act.put, List.getElem_toArray, List.getElem_cons_succ, List.getElem_cons_zero, List.setIfInBounds_toArray, List.set_cons_zero, List.set_cons_succ])
  refine wpAnyH_ready (rs := [7]) (by kernel_rfl) (by simp) ?_
  refine AllReadyH.cons (o := _) rfl (fun K hK => ?_) AllReadyH.nil
  go_simp
  refine hK.out _ _ ((by first | exact c1B.out _ ((HB7).alloc _) | exact ((HB7).alloc _).2)) (fun hHeld => ?_)
  clear hK K
  (try simp only [Act.put, List.getElem_toArray, List.getElem_cons_succ, List.getElem_cons_zero, List.setIfInBounds_toArray, List.set_cons_zero, List.set_cons_succ])
  refine wpAnyH_ready (rs := [8]) (by kernel_rfl) (by simp) ?_
  refine AllReadyH.cons (o := _) rfl (fun K hK => ?_) AllReadyH.nil
  go_simp
  go_at_call 38; refine (C2.out _ HB7).mono ?_; rintro e V9 ⟨rfl, HB9⟩
  refine hK.out _ _ ((by first | exact c1B.out _ HB9 | exact HB9.2)) (fun hHeld => ?_)
  clear hK K
  (try simp only [Act.put, List.getElem_toArray, List.getElem_cons_succ, List.getElem_cons_zero, List.setIfInBounds_toArray, List.set_cons_zero, List.set_cons_succ])
  refine wpAnyH_done (by kernel_rfl) ?_ _
  refine NoPanic.normal ?_
  refine bodyPost_end (results_none rfl _ _ _) rfl ?_
  exact ⟨rfl, HB9.1⟩
end Go.Proofs.Ytebmgajijjhinaa
