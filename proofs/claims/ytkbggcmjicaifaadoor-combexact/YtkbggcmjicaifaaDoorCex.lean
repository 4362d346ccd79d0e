/- The walk of the law CombExact. -/
import Derived.Test.YtkbggcmjicaifaaDoorC6
import Derived.Test.YtkbggcmjicaifaaDoorY2
import Derived.Test.YtkbggcmjicaifaaDoorY3
namespace Go.Proofs.YtkbggcmjicaifaaDoor
open Go.RowKit
set_option linter.unusedVariables false

theorem wl_rowX {P : Program} {ops : Array Oper} {rest : List Oper} {o : Oper} {a : Act} {w : World} {Q : Exit → Act → World → Prop} (hw : Region.wanted o (yielded ops a.tmps) = true) (ty : TypeId) (x : Operand) (ho : o.op = .load ty x)
    (g : Nat) (hx : a.eval x = .pointer (some ⟨g, 0, none⟩)) (t : TypeId) (cs : Array Value) (fr : Nat × Nat) (d : TypeDesc) (hg : w.heap[g]? = some (.cells cs t fr))
    (hu : P.underlying ty = some d) (hd : (match d with | .struct _ | .array _ _ => true | _ => false) = true) (hi : (P.info? ty).map (·.size) = some cs.size)
    (h : wpList P ops Q rest (a.put o.dst (.agg cs)) w) : wpList P ops Q (o :: rest) a w :=
  wpList_step fun _ hK => by rw [if_pos hw]; exact wp_load_row ty x ho g hx t cs fr d hg hu hd hi (hK _ _ h)
theorem sameB_self (wh : List UInt8) (sz : Int) (P : List (List UInt8)) : sameB wh wh sz sz P P = true := by simp [sameB]

set_option maxRecDepth 8000 in
set_option maxHeartbeats 1000000 in
theorem combExact_long (s : List UInt8) (w : World) (hG : GW w) (h1 : 8192 < s.length) (h2 : s.length ≤ 9223372036854775807) :
    Calls Tryd.prog 4 #[.string (M.bs s)] w fun e w' => e = .returned (.bool true) ∧ Below w.heap.size w w' := by
  have HG : Hid (GB w w) := GB.refl hG
  have hbs := M.bs_size s
  clear hG
  go_enter Tryd.func4, Tryd.ntmps4
  go_wp2_with (first
    | (go_at_call 14; refine (awake3_g HG).mono ?_; clear HG; rintro e w1 ⟨rfl, HG⟩))
  go_ret
  exact ⟨rfl, HG.b⟩
set_option maxRecDepth 8000 in
set_option maxHeartbeats 4000000 in
theorem combExact_core (s : List UInt8) (w : World) (hG : GW w) (hs : s.length ≤ 8192) (WH : List UInt8) (SZ E : Int) (DS : List (List UInt8)) (hWH : WH.length = 32) (hDS : DS.length ≤ 1000)
    (CM : Hid (∀ W, GB w W → Calls Tryd.prog 15 #[.string (M.bs s)] W fun e w' => ∃ a c, e = .returned (.tuple #[.agg (mv WH SZ a DS.length c), .int .i64 E]) ∧ Dgs w'.heap.size w' a DS ∧ GB w w'))
    (CR : Hid (∀ W, GB w W → Calls Tryd.prog 16 #[.string (M.bs s)] W fun e w' => ∃ a c, e = .returned (.tuple #[.agg (mv WH SZ a DS.length c), .int .i64 E]) ∧ Dgs w'.heap.size w' a DS ∧ GB w w' ∧ Below W.heap.size W w')) :
    Calls Tryd.prog 4 #[.string (M.bs s)] w fun e w' => e = .returned (.bool true) ∧ Below w.heap.size w w' := by
  have HG : Hid (GB w w) := GB.refl hG
  have hbs := M.bs_size s
  have hz := zero34_size
  obtain ⟨fs, hum⟩ := und27m
  have HSM : Hid (∀ a c, (mv WH SZ a DS.length c).size = 34) := fun a c => mv_size _ _ _ _ _ hWH
  have HM1 : Hid (∀ a c, (mv WH SZ a DS.length c).all (·.oneCell') = true) := fun a c => mv_one _ _ _ _ _
  have hzz : ∀ W, (zeroValue 34).run Tryd.prog W = .ok (.agg zero34) W := zero27m
  generalize zero34 = Z at *
  have HST : Hid (∀ W : World, (W.alloc (.cells Z 34)).heap[W.heap.size]? = some (.cells Z 34 (0, 0))) := fun W => heap_alloc_new W _
  clear hG
  go_enter Tryd.func4, Tryd.ntmps4
  go_wp2_with (first
    | (go_at_call 14; refine (awake3_g HG).mono ?_; clear HG; rintro e w0 ⟨rfl, HG⟩)
    | (go_at_call 15; refine (CM.out _ HG).mono ?_; clear CM HG; rintro e w1 ⟨a1, c1, rfl, HD1, HG⟩)
    | (refine wpList_store_row rfl 34 _ _ rfl w1.heap.size (mv WH SZ a1 DS.length c1) rfl rfl 34 Z (HST.out w1) (by rw [HSM.out]; exact info27m) (by rw [hz, HSM.out]) (HM1.out _ _) ?_; rw [World.setRow_alloc_new])
    | (go_at_call 16; refine (CR.out _ (HG.alloc _)).mono ?_; clear CR HG; rintro e w3 ⟨a2, c2, rfl, HD2, HG, HB3⟩)
    | (refine wpList_store_row rfl 34 _ _ rfl w3.heap.size (mv WH SZ a2 DS.length c2) rfl rfl 34 Z (HST.out w3) (by rw [HSM.out]; exact info27m) (by rw [hz, HSM.out]) (HM1.out _ _) ?_; rw [World.setRow_alloc_new]))
  have hs31 : w1.heap.size + 1 ≤ w3.heap.size := by have := HB3.size; simpa using this
  have HAL : Below w3.heap.size w3 (w3.alloc (.cells (mv WH SZ a2 DS.length c2) 34)) := (Below.refl _ w3).alloc (Nat.le_refl _) _
  have hq3 : (w3.alloc (.cells (mv WH SZ a2 DS.length c2) 34)).heap[w1.heap.size]? = some (.cells (mv WH SZ a1 DS.length c1) 34 (0, 0)) := by
    rw [HAL.block _ (by omega), HB3.block _ (by simp)]; exact heap_alloc_new _ _
  have hq5 : (w3.alloc (.cells (mv WH SZ a2 DS.length c2) 34)).heap[w3.heap.size]? = some (.cells (mv WH SZ a2 DS.length c2) 34 (0, 0)) := heap_alloc_new _ _
  have HD1' : Dgs (w3.alloc (.cells (mv WH SZ a2 DS.length c2) 34)).heap.size (w3.alloc (.cells (mv WH SZ a2 DS.length c2) 34)) a1 DS := by
    have h1 : Dgs w3.heap.size w3 a1 DS := (HD1.below ((Below.refl _ w1).alloc (Nat.le_refl _) (.cells (mv WH SZ a1 DS.length c1) 34)) (Nat.le_refl _)).below (HB3.mono (by simp)) (by omega)
    exact h1.below HAL (by simp)
  have HD2' : Dgs (w3.alloc (.cells (mv WH SZ a2 DS.length c2) 34)).heap.size (w3.alloc (.cells (mv WH SZ a2 DS.length c2) 34)) a2 DS := HD2.below HAL (by simp)
  have HG5 : GB w (w3.alloc (.cells (mv WH SZ a2 DS.length c2) 34)) := HG.alloc _
  generalize w3.alloc (.cells (mv WH SZ a2 DS.length c2) 34) = W5 at *
  generalize w1.heap.size = q3 at *
  generalize w3.heap.size = q5 at *
  have HRW : Hid (∀ W, Below W5.heap.size W5 W → W.heap[q3]? = some (.cells (mv WH SZ a1 DS.length c1) 34 (0, 0)) ∧ W.heap[q5]? = some (.cells (mv WH SZ a2 DS.length c2) 34 (0, 0)) ∧ GB w W) := fun W h =>
    ⟨by rw [h.block _ (by have := (Array.getElem?_eq_some_iff.1 hq3).1; exact this)]; exact hq3, by rw [h.block _ (by have := (Array.getElem?_eq_some_iff.1 hq5).1; exact this)]; exact hq5, HG5.step h⟩
  have CS : Hid (Calls Tryd.prog 18 #[.string (M.bs s)] W5 fun e w' => ∃ a c, e = .returned (.slice a (S.split s).length c) ∧ Strs w'.heap.size w' (.slice a (S.split s).length c) (S.split s) ∧ Below W5.heap.size W5 w') := by
    refine (Split_at s W5 (by omega)).mono ?_
    rintro e w' ⟨a, c, rfl, h1, h2, h3⟩
    exact ⟨a, c, rfl, h1, h3⟩
  have CT : Hid (∀ W, Below W5.heap.size W5 W → Calls Tryd.prog 19 #[.string (M.bs s)] W fun e w' => ∃ a c, e = .returned (.slice a (S.split s).length c) ∧ Strs w'.heap.size w' (.slice a (S.split s).length c) (S.split s) ∧ Below W.heap.size W w') := fun W h => rSplit_at s W (by omega)
  have hn : (S.split s).length ≤ 1000 := by rw [S.split_length]; unfold S.nch; omega
  have CE : Hid (∀ W v1 v2 B1 B2, Strs B1 W v1 (S.split s) → Strs B2 W v2 (S.split s) → Calls Tryd.prog 17 #[v1, v2] W fun e w' => e = .returned (.bool true) ∧ Below W.heap.size W w') := fun W v1 v2 B1 B2 h1 h2 => by
    refine (same_any v1 v2 _ _ B1 B2 W h1 h2 (by omega)).mono ?_
    rintro e w' ⟨rfl, n, rfl⟩
    exact ⟨by rw [decide_eq_true rfl], below_drewN (Below.refl _ _) _⟩
  have CQ : Hid (∀ W, Below W5.heap.size W5 W → Calls Tryd.prog 20 #[.agg (mv WH SZ a1 DS.length c1), .agg (mv WH SZ a2 DS.length c2)] W fun e w' => e = .returned (.bool true) ∧ Below W.heap.size W w') := fun W h => by
    have := rSame_at WH WH SZ SZ a1 a2 DS DS c1 c2 W hWH hWH (by omega) (by omega) (HD1'.below h h.size) (HD2'.below h h.size)
    rwa [sameB_self] at this
  have hEE : (E == E) = true := by simp
  have h1s := HSM.out a1 c1
  have h2s := HSM.out a2 c2
  clear HD1 HD2 HD1' HD2' hq3 hq5 HG HG5 HAL HB3 hs31 HST HM1 HSM
  generalize mv WH SZ a1 DS.length c1 = C1 at *
  generalize mv WH SZ a2 DS.length c2 = C2 at *
  go_wp2_with (first
    | (go_at_call 18; refine CS.out.mono ?_; clear CS; rintro e w6 ⟨sa, sc, rfl, HS6, HB6⟩)
    | (go_at_call 19; refine (CT.out _ HB6).mono ?_; clear CT; rintro e w7 ⟨ta, tc, rfl, HS7, HB7⟩)
    | (go_at_call 17; refine (CE.out _ _ _ _ _ (HS6.below HB7 HB7.size) HS7).mono ?_; clear CE; rintro e w8 ⟨rfl, HB8⟩; have HB58 : Below W5.heap.size W5 w8 := (HB6.trans (HB7.mono HB6.size)).trans (HB8.mono (Nat.le_trans HB6.size HB7.size)); obtain ⟨f1, f2, f3⟩ := HRW.out _ HB58)
    | (refine wl_rowX (by rfl) 34 (.tmp 3) rfl q3 rfl 34 C1 (0, 0) _ f1 hum rfl (by rw [h1s]; exact info27m) ?_)
    | (refine wl_rowX (by rfl) 34 (.tmp 5) rfl q5 rfl 34 C2 (0, 0) _ f2 hum rfl (by rw [h2s]; exact info27m) ?_)
    | (go_at_call 20; refine (CQ.out _ HB58).mono ?_; clear CQ; rintro e w9 ⟨rfl, HB9⟩))
  go_ret
  exact ⟨rfl, (f3.step HB9).b⟩
theorem combExact_walk (s : List UInt8) (w : World) (hG : GW w) (hs : s.length ≤ 8192) :
    Calls Tryd.prog 4 #[.string (M.bs s)] w fun e w' => e = .returned (.bool true) ∧ Below w.heap.size w w' := by
  by_cases h : s.length ≤ 512
  · have e0 : ((S.split s).map S.sha).length = (S.split s).length := by simp
    refine combExact_core s w hG hs (S.sha s) (s.length : Int) 0 ((S.split s).map S.sha) (S.sha_length _) (by rw [e0, S.split_length]; unfold S.nch; omega) (fun W g => ?_) (fun W g => ?_)
    · rw [e0]
      refine (Mani_at s W h g.g).mono ?_
      rintro e w' ⟨a, c, rfl, h1, h2⟩
      exact ⟨a, c, rfl, h1, g.step h2⟩
    · rw [e0]
      refine (rMani_at s W h).mono ?_
      rintro e w' ⟨a, c, rfl, h1, h2⟩
      exact ⟨a, c, rfl, h1, g.step h2, h2⟩
  · refine combExact_core s w hG hs d0 0 33 [] (by simp [d0]) (by simp) (fun W g => ?_) (fun W g => ?_)
    · refine (Mani_wide s W (by omega) (by omega)).mono ?_
      rintro e w' ⟨rfl, h2⟩
      exact ⟨none, 0, rfl, fun i d hd => by simp at hd, g.step h2⟩
    · refine (rMani_wide s W (by omega) (by omega)).mono ?_
      rintro e w' ⟨rfl, h2⟩
      exact ⟨none, 0, rfl, fun i d hd => by simp at hd, g.step h2, h2⟩
end Go.Proofs.YtkbggcmjicaifaaDoor
