/- The walk of the law RankLists. -/
import Derived.Test.YtgnnlnhhikmneaaKst
import Derived.Test.YtgnnlnhhikmneaaRegT
namespace Go.Proofs.Ytgnnlnhhikmneaa
open Go.RowKit Go.Maps
set_option linter.unusedVariables false
set_option linter.unusedSimpArgs false

theorem allN_le {f : K.Vw} (h : K.Ok f) : ∀ (k : Nat) (m : K.Me), m ∈ K.allN f k → m.1 ≤ (k : Int)
  | 0, m, hm => by simp [K.allN] at hm
  | k + 1, m, hm => by
    rw [K.allN_succ] at hm
    rcases List.mem_append.1 hm with hm | hm
    · have := allN_le h k m hm; omega
    · cases hf : f ((k : Int) + 1) with
      | none => rw [hf] at hm; simp at hm
      | some x =>
        rw [hf] at hm
        simp at hm; subst hm
        have := (h _ _ hf).2
        omega
theorem allN_sorted {f : K.Vw} (h : K.Ok f) : ∀ k : Nat, (K.allN f k).Pairwise (fun a b => a.1 < b.1)
  | 0 => by simp [K.allN]
  | k + 1 => by
    rw [K.allN_succ]
    refine List.pairwise_append.2 ⟨allN_sorted h k, ?_, ?_⟩
    · cases f ((k : Int) + 1) <;> simp
    · intro a ha b hb
      have h1 := allN_le h k a ha
      cases hf : f ((k : Int) + 1) with
      | none => rw [hf] at hb; simp at hb
      | some x =>
        rw [hf] at hb
        simp at hb; subst hb
        have := (h _ _ hf).2
        omega
theorem all_lt {f : K.Vw} (h : K.Ok f) {i : Nat} {a b : K.Me} (h1 : (K.all f)[i]? = some a) (h2 : (K.all f)[i + 1]? = some b) : a.1 < b.1 := by
  obtain ⟨i1, rfl⟩ := List.getElem?_eq_some_iff.1 h1
  obtain ⟨i2, rfl⟩ := List.getElem?_eq_some_iff.1 h2
  exact List.pairwise_iff_getElem.1 (allN_sorted h 6) i (i + 1) i1 i2 (by omega)
theorem preL_pre (l : List K.Me) : ∀ (j k : Nat), k ≤ j → ∃ z, K.preL l j = K.preL l k ++ z := fun j k h => by
  refine ⟨(((l.take j).drop k).filter K.here).map (·.1), ?_⟩
  unfold K.preL
  rw [← List.map_append, ← List.filter_append]
  congr 2
  rw [show l.take k = (l.take j).take k by rw [List.take_take, Nat.min_eq_left h], List.take_append_drop]
/-- the place of one that is there -/
theorem pres_at {l : List K.Me} {i : Nat} {m : K.Me} (h : l[i]? = some m) (hh : K.here m = true) : (K.preL l l.length)[(K.preL l i).length]? = some m.1 := by
  have hi := (List.getElem?_eq_some_iff.1 h).1
  obtain ⟨z, hz⟩ := preL_pre l l.length (i + 1) hi
  rw [hz, K.preL_succ h, if_pos hh, List.append_assoc, List.getElem?_append_right (Nat.le_refl _), Nat.sub_self]
  rfl
set_option maxRecDepth 8000 in
set_option maxHeartbeats 64000000 in
theorem rankLists_walk (w : World) (l : List K.Me) (a : Option Addr) (c : Nat) (hv : RS lyM w a l) (hn : l.length ≤ 9223372036854775807) (hok : ∀ m ∈ l, i64 m.1) :
    Calls Try.prog 7 #[.slice a l.length c] w fun e w' => e = .returned (.bool true) ∧ Bl w w' := by
  have C0 : Hid (Calls Try.prog 8 #[] w fun e w' => e = .returned (.bool true) ∧ Bl w w') := awake_10 w
  by_cases h1 : 100 < l.length
  · go_enter Try.func7, Try.ntmps7
    go_wp2_with (go_at_call 8; refine C0.out.mono ?_; clear C0; rintro e w1 ⟨rfl, HB⟩)
    go_ret
    exact ⟨rfl, HB⟩
  have hfo : K.Ok (K.mrg K.e0 l) := K.ok_mrg l K.ok_e0
  obtain ⟨f, hf⟩ : ∃ f, K.mrg K.e0 l = f := ⟨_, rfl⟩
  rw [hf] at hfo
  have C1 : Hid (∀ W, Bl w W → Calls Try.prog 9 #[.slice a l.length c] W fun e w' => ∃ q, e = .returned (.pointer (some ⟨q, 0, none⟩)) ∧ GetC w' (.pointer (some ⟨q, 0, none⟩)) f ∧ Bl w w') := fun W h => (New_x W l a c (hv.bl h) (by omega) hok).mono fun e w' ⟨q, b, h1, h2⟩ => ⟨q, h1, by rw [hf] at h2; exact h2.getC, h.step h2.bl⟩
  have C2 : Hid (∀ W v, GetC W v f → Calls Try.prog 13 #[v] W fun e w' => ∃ a c, e = .returned (.slice a (K.all f).length c) ∧ RS lyM w' a (K.all f) ∧ Bl W w') := fun W v h => All_g h
  have C3 : Hid (∀ W v, GetC W v f → Calls Try.prog 16 #[v] W fun e w' => ∃ a c, e = .returned (.slice a (K.pres f).length c) ∧ RS lyI w' a (K.pres f) ∧ Bl W w') := fun W v h => Present_g h
  have HL : Hid (∀ i m, (K.all f)[i]? = some m → gv f m.1 = m ∧ (f m.1).isSome = true ∧ K.good m = true ∧ i64 m.1) := fun i m h => by
    obtain ⟨h1, h2⟩ := K.all_of hfo (List.mem_of_getElem? h)
    refine ⟨by unfold gv; rw [h1]; rfl, by rw [h1]; rfl, (K.good_iff m).2 h2, ?_⟩
    have := h2.1; have := h2.2.1
    constructor <;> omega
  have HS : Hid (∀ i a b, (K.all f)[i]? = some a → (K.all f)[i + 1]? = some b → a.1 < b.1) := fun i a b h1 h2 => all_lt hfo h1 h2
  have HP : Hid (K.pres f = K.preL (K.all f) (K.all f).length) := (K.preL_all f).symm
  have hl6 : (K.all f).length ≤ 6 := K.allN_len f 6
  generalize K.pres f = P at *
  generalize K.all f = L at *
  obtain ⟨fs, hum⟩ := undMe
  clear hv hok hf hfo
  go_enter Try.func7, Try.ntmps7
  go_wp2_with (first
    | (go_at_call 8; refine C0.out.mono ?_; clear C0; rintro e w1 ⟨rfl, HB⟩)
    | (go_at_call 9; refine (C1.out _ HB).mono ?_; clear C1 HB; rintro e w2 ⟨q, rfl, HG, HB⟩)
    | (go_at_call 13; refine (C2.out _ _ HG).mono ?_; clear C2; rintro e w3 ⟨a3, c3, rfl, HA3, HB3⟩)
    | (go_at_call 16; refine (C3.out _ _ (HG.up HB3)).mono ?_; clear C3; rintro e w4 ⟨a4, c4, rfl, HA4, HB4⟩))
  have HGG : Hid (GetC w4 (.pointer (some ⟨q, 0, none⟩)) f) := (HG.up HB3).up HB4
  have HLL : Hid (RS lyM w4 a3 L) := HA3.bl HB4
  have HPP : Hid (RS lyI w4 a4 P) := HA4
  have HB0 : Hid (Bl w w4) := (HB.step HB3).step HB4
  have hpl : P.length ≤ 6 := by rw [HP.out]; exact Nat.le_trans (K.preL_len _ _) hl6
  clear HG HA3 HB3 HB4 HA4 HB
  go_loopw [6, 7, 8, 9] (fun u6 u7 u8 u9 wr => ∃ i : Nat, i ≤ L.length ∧ u7 = .int .i64 i ∧ u6 = .int .i64 ((K.preL L i).length : Nat) ∧ Bl w4 wr) (fun _ u7 _ _ _ => L.length - (intOf u7).toNat)
  case atStart => exact ⟨0, Nat.zero_le _, rfl, rfl, Bl.refl _⟩
  case round =>
    obtain ⟨i, hi, rfl, rfl, hx⟩ := hrel
    by_cases hlt : i < L.length
    · obtain ⟨m, hm⟩ : ∃ m, L[i]? = some m := ⟨L[i], List.getElem?_eq_getElem hlt⟩
      obtain ⟨g1, g2, g3, g4⟩ := HL.out i m hm
      obtain ⟨b3, o3, rfl, hb3, hrg⟩ := (HLL.out.bl hx) i m hm
      have HRL : Hid (∀ (j : Nat) (x : K.Me), L[j]? = some x → ∀ U, Bl w4 U → U.rangeAt b3 (o3 + j * 3) [.int .i64 x.1, .int .i64 x.2.1, .int .i64 x.2.2]) := fun j x hj U hU => by
        obtain ⟨b', o', e1, e2, e3⟩ := (HLL.out.bl hU) j x hj
        cases e1
        exact e3
      have C4 : Hid (Calls Try.prog 22 #[.pointer (some ⟨q, 0, none⟩), .int .i64 m.1] wr fun e w' => e = .returned (.tuple #[.agg #[.int .i64 m.1, .int .i64 m.2.1, .int .i64 m.2.2], .bool true]) ∧ Bl wr w') := by
        have := (HGG.out.up hx) m.1 wr g4 (Bl.refl wr)
        rw [g1, g2] at this
        exact this
      have C5 : Hid (∀ V U, Bl V U → Calls Try.prog 18 #[.agg #[.int .i64 m.1, .int .i64 m.2.1, .int .i64 m.2.2]] U fun e w' => e = .returned (.bool true) ∧ Bl V w') := fun V U h => by
        have := Good_x m V U h
        rw [g3] at this
        exact this
      have heq := fun W => eqMe m m W
      rw [decide_eq_true rfl] at heq
      have hal := K.preL_len L i
      have HPS : Hid (K.preL L (i + 1) = K.preL L i ++ if K.here m = true then [m.1] else []) := K.preL_succ hm
      have HPA : Hid (K.here m = true → ∃ bp op, a4 = some ⟨bp, op, none⟩ ∧ (K.preL L i).length < P.length ∧ ∀ U, Bl w4 U → U.cell? ⟨bp, op + (K.preL L i).length, none⟩ = some (.int .i64 m.1)) := fun hh => by
        have h1 : P[(K.preL L i).length]? = some m.1 := by rw [HP.out]; exact pres_at hm hh
        obtain ⟨b', o', e1, e2, e3⟩ := HPP.out _ _ h1
        refine ⟨b', o', e1, (List.getElem?_eq_some_iff.1 h1).1, fun U hU => ?_⟩
        rw [Bl.cell hU e2]
        have := e3 0 _ rfl
        simpa [lyI] using this
      have k0 : wr.cell? ⟨b3, o3 + i * 3, none⟩ = some (.int .i64 m.1) := by have := hrg 0 _ rfl; rwa [Nat.add_zero] at this
      clear hrg g1 g2 g3 g4
      have HX : Hid (Bl w4 wr) := hx
      clear hx
      by_cases hi0 : i = 0
      · have hp1 : ¬ (0 < i) := by omega
        have hp2 : decide ((0 : Int) < (i : Int)) = false := by simp; omega
        clear hi0
        have HRI := HRL.out i m hm
        clear hm HRL
        obtain ⟨m0, m1, m2⟩ := m
        simp only at *
        go_wp2_with (go_at_call 22; refine C4.out.mono ?_; clear C4; rintro e W1 ⟨rfl, HB1⟩)
        have HZ : Hid (Bl w4 (W1.alloc (.cells #[.int .i64 m0, .int .i64 m1, .int .i64 m2] 28))) := (HX.out.step HB1).alloc _
        have KP : Hid (∀ U, Bl (W1.alloc (.cells #[.int .i64 m0, .int .i64 m1, .int .i64 m2] 28)) U → U.rangeAt W1.heap.size 0 [.int .i64 m0, .int .i64 m1, .int .i64 m2] ∧ U.rangeAt b3 (o3 + i * 3) [.int .i64 m0, .int .i64 m1, .int .i64 m2]) := fun U hU => by
          have r1 : U.rangeAt W1.heap.size 0 [.int .i64 m0, .int .i64 m1, .int .i64 m2] := range3 hU.box
          have r2 := HRI U (HZ.out.step hU)
          exact ⟨r1, r2⟩
        clear HB1 HX HRI k0
        generalize hZ : (W1.alloc (.cells #[.int .i64 m0, .int .i64 m1, .int .i64 m2] 28)) = Z at *
        generalize W1.heap.size = B8 at *
        (try simp only [List.append_eq, List.cons_append, List.nil_append])
        refine wp_region_noPanic ?_
        refine wp_region_held_drew (S := fun U => U.rangeAt B8 0 [.int .i64 m0, .int .i64 m1, .int .i64 m2] ∧ U.rangeAt b3 (o3 + i * 3) [.int .i64 m0, .int .i64 m1, .int .i64 m2]) (by kernel_rfl) (KP.out _ ((Bl.refl Z).drewN 1)) (fun hHeld => ?_)
        refine wpAnyH_take (i := 0) rfl (by kernel_rfl) (by kernel_rfl) (by kernel_rfl) (fun _ _ _ h => h) (yi_move (by kernel_rfl) rfl rfl) (by assumption) ?_
        simp only [Act.put, List.getElem_toArray, List.getElem_cons_succ, List.getElem_cons_zero, List.setIfInBounds_toArray, List.set_cons_zero, List.set_cons_succ]
        refine wpAnyH_take (i := 1) (v := ?_) rfl (by kernel_rfl) (by kernel_rfl) (by kernel_rfl) (fun _ _ _ h => h) (Or.inl ⟨by kernel_rfl, ?_⟩) (by assumption) ?_
        rotate_left
        · (intro w hSw; (try dsimp only at hSw); go_simp; (try with_reducible rfl))
        simp only [Act.put, List.getElem_toArray, List.getElem_cons_succ, List.getElem_cons_zero, List.setIfInBounds_toArray, List.set_cons_zero, List.set_cons_succ]
        refine wpAnyH_take (i := 2) rfl (by kernel_rfl) (by kernel_rfl) (by kernel_rfl) (fun _ _ _ h => h) (yi_move (by kernel_rfl) rfl rfl) (by assumption) ?_
        simp only [Act.put, List.getElem_toArray, List.getElem_cons_succ, List.getElem_cons_zero, List.setIfInBounds_toArray, List.set_cons_zero, List.set_cons_succ]
        refine wpAnyH_take (i := 3) (v := .agg (List.toArray [.int .i64 m0, .int .i64 m1, .int .i64 m2])) rfl (by kernel_rfl) (by kernel_rfl) (by kernel_rfl) (fun _ _ _ h => h) (yieldsIf_load_mid (by kernel_rfl) _ (.tmp 8) (by kernel_rfl) B8 0 (by kernel_rfl) [.int .i64 m0, .int .i64 m1, .int .i64 m2] _ (fun W hW => hW.1) hum rfl infoMe) (by assumption) ?_
        simp only [Act.put, List.getElem_toArray, List.getElem_cons_succ, List.getElem_cons_zero, List.setIfInBounds_toArray, List.set_cons_zero, List.set_cons_succ]
        refine wpAnyH_take (i := 4) rfl (by kernel_rfl) (by kernel_rfl) (by kernel_rfl) (fun _ _ _ h => h) (yi_move (by kernel_rfl) rfl rfl) (by assumption) ?_
        simp only [Act.put, List.getElem_toArray, List.getElem_cons_succ, List.getElem_cons_zero, List.setIfInBounds_toArray, List.set_cons_zero, List.set_cons_succ]
        refine wpAnyH_take (i := 5) rfl (by kernel_rfl) (by kernel_rfl) (by kernel_rfl) (fun _ _ _ h => h) (yi_move (by kernel_rfl) rfl rfl) (by assumption) ?_
        simp only [Act.put, List.getElem_toArray, List.getElem_cons_succ, List.getElem_cons_zero, List.setIfInBounds_toArray, List.set_cons_zero, List.set_cons_succ]
        refine wpAnyH_take (i := 6) (v := ?_) rfl (by kernel_rfl) (by kernel_rfl) (by kernel_rfl) (fun _ _ _ h => h) (Or.inl ⟨by kernel_rfl, ?_⟩) (by assumption) ?_
        rotate_left
        · (intro w hSw; (try dsimp only at hSw); go_simp; (try with_reducible rfl))
        simp only [Act.put, List.getElem_toArray, List.getElem_cons_succ, List.getElem_cons_zero, List.setIfInBounds_toArray, List.set_cons_zero, List.set_cons_succ]
        refine wpAnyH_take (i := 7) (v := .agg (List.toArray [.int .i64 m0, .int .i64 m1, .int .i64 m2])) rfl (by kernel_rfl) (by kernel_rfl) (by kernel_rfl) (fun _ _ _ h => h) (yieldsIf_load_mid (by kernel_rfl) _ (.tmp 43) (by kernel_rfl) b3 (o3 + i * 3) (by kernel_rfl) [.int .i64 m0, .int .i64 m1, .int .i64 m2] _ (fun W hW => hW.2) hum rfl infoMe) (by assumption) ?_
        simp only [Act.put, List.getElem_toArray, List.getElem_cons_succ, List.getElem_cons_zero, List.setIfInBounds_toArray, List.set_cons_zero, List.set_cons_succ]
        refine wpAnyH_take (i := 8) (v := ?_) rfl (by kernel_rfl) (by kernel_rfl) (by kernel_rfl) (fun _ _ _ h => h) (Or.inl ⟨by kernel_rfl, ?_⟩) (by assumption) ?_
        rotate_left
        · (intro w hSw; (try dsimp only at hSw); go_simp; (try with_reducible rfl))
        simp only [Act.put, List.getElem_toArray, List.getElem_cons_succ, List.getElem_cons_zero, List.setIfInBounds_toArray, List.set_cons_zero, List.set_cons_succ]
        refine wpAnyH_take (i := 9) (v := ?_) rfl (by kernel_rfl) (by kernel_rfl) (by kernel_rfl) (fun _ _ _ h => h) (Or.inl ⟨by kernel_rfl, ?_⟩) (by assumption) ?_
        rotate_left
        · (intro w hSw; (try dsimp only at hSw); go_simp; (try with_reducible rfl))
        simp only [Act.put, List.getElem_toArray, List.getElem_cons_succ, List.getElem_cons_zero, List.setIfInBounds_toArray, List.set_cons_zero, List.set_cons_succ]
        refine wpAnyH_take (i := 10) rfl (by kernel_rfl) (by kernel_rfl) (by kernel_rfl) (fun _ _ _ h => h) (yi_move (by kernel_rfl) rfl rfl) (by assumption) ?_
        simp only [Act.put, List.getElem_toArray, List.getElem_cons_succ, List.getElem_cons_zero, List.setIfInBounds_toArray, List.set_cons_zero, List.set_cons_succ]
        refine wpAnyH_take (i := 11) (v := .agg (List.toArray [.int .i64 m0, .int .i64 m1, .int .i64 m2])) rfl (by kernel_rfl) (by kernel_rfl) (by kernel_rfl) (fun _ _ _ h => h) (yieldsIf_load_mid (by kernel_rfl) _ (.tmp 8) (by kernel_rfl) B8 0 (by kernel_rfl) [.int .i64 m0, .int .i64 m1, .int .i64 m2] _ (fun W hW => hW.1) hum rfl infoMe) (by assumption) ?_
        simp only [Act.put, List.getElem_toArray, List.getElem_cons_succ, List.getElem_cons_zero, List.setIfInBounds_toArray, List.set_cons_zero, List.set_cons_succ]
        refine wpAnyH_ready (rs := [12]) (by kernel_rfl) (by simp) ?_
        refine AllReadyH.cons (o := _) rfl (fun K hK => ?_) AllReadyH.nil
        go_simp
        go_at_call 18; refine (C5.out _ _ ((Bl.refl Z).drewN 1)).mono ?_; rintro e V13 ⟨rfl, HB13⟩
        refine hK.out _ _ (KP.out _ HB13) (fun hHeld => ?_)
        clear hK K
        (try simp only [Act.put, List.getElem_toArray, List.getElem_cons_succ, List.getElem_cons_zero, List.setIfInBounds_toArray, List.set_cons_zero, List.set_cons_succ])
        refine wpAnyH_take (i := 13) (v := ?_) rfl (by kernel_rfl) (by kernel_rfl) (by kernel_rfl) (fun _ _ _ h => h) (Or.inl ⟨by kernel_rfl, ?_⟩) (by assumption) ?_
        rotate_left
        · (intro w hSw; (try dsimp only at hSw); go_simp; (try with_reducible rfl))
        simp only [Act.put, List.getElem_toArray, List.getElem_cons_succ, List.getElem_cons_zero, List.setIfInBounds_toArray, List.set_cons_zero, List.set_cons_succ]
        refine wpAnyH_take (i := 14) (v := ?_) rfl (by kernel_rfl) (by kernel_rfl) (by kernel_rfl) (fun _ _ _ h => h) (Or.inl ⟨by kernel_rfl, ?_⟩) (by assumption) ?_
        rotate_left
        · (intro w hSw; (try dsimp only at hSw); go_simp; (try with_reducible rfl))
        simp only [Act.put, List.getElem_toArray, List.getElem_cons_succ, List.getElem_cons_zero, List.setIfInBounds_toArray, List.set_cons_zero, List.set_cons_succ]
        refine wpAnyH_take (i := 15) rfl (by kernel_rfl) (by kernel_rfl) (by kernel_rfl) (fun _ _ _ h => h) (yi_move (by kernel_rfl) rfl rfl) (by assumption) ?_
        simp only [Act.put, List.getElem_toArray, List.getElem_cons_succ, List.getElem_cons_zero, List.setIfInBounds_toArray, List.set_cons_zero, List.set_cons_succ]
        refine wpAnyH_take (i := 16) rfl (by kernel_rfl) (by kernel_rfl) (by kernel_rfl) (fun _ _ _ h => h) (yi_move (by kernel_rfl) rfl rfl) (by assumption) ?_
        simp only [Act.put, List.getElem_toArray, List.getElem_cons_succ, List.getElem_cons_zero, List.setIfInBounds_toArray, List.set_cons_zero, List.set_cons_succ]
        refine wpAnyH_take (i := 17) (v := ?_) rfl (by kernel_rfl) (by kernel_rfl) (by kernel_rfl) (fun _ _ _ h => h) (Or.inl ⟨by kernel_rfl, ?_⟩) (by assumption) ?_
        rotate_left
        · (intro w hSw; (try dsimp only at hSw); go_simp; (try with_reducible rfl))
        simp only [Act.put, List.getElem_toArray, List.getElem_cons_succ, List.getElem_cons_zero, List.setIfInBounds_toArray, List.set_cons_zero, List.set_cons_succ]
        refine wpAnyH_take (i := 18) rfl (by kernel_rfl) (by kernel_rfl) (by kernel_rfl) (fun _ _ _ h => h) (yi_move (by kernel_rfl) rfl rfl) (by assumption) ?_
        simp only [Act.put, List.getElem_toArray, List.getElem_cons_succ, List.getElem_cons_zero, List.setIfInBounds_toArray, List.set_cons_zero, List.set_cons_succ]
        refine wpAnyH_take (i := 19) (v := undef) rfl (by kernel_rfl) (by kernel_rfl) (by kernel_rfl) (fun _ _ _ h => h) (Or.inr ⟨by kernel_rfl, rfl⟩) (by assumption) ?_
        simp only [Act.put, List.getElem_toArray, List.getElem_cons_succ, List.getElem_cons_zero, List.setIfInBounds_toArray, List.set_cons_zero, List.set_cons_succ]
        refine wpAnyH_take (i := 20) (v := undef) rfl (by kernel_rfl) (by kernel_rfl) (by kernel_rfl) (fun _ _ _ h => h) (Or.inr ⟨by kernel_rfl, rfl⟩) (by assumption) ?_
        simp only [Act.put, List.getElem_toArray, List.getElem_cons_succ, List.getElem_cons_zero, List.setIfInBounds_toArray, List.set_cons_zero, List.set_cons_succ]
        refine wpAnyH_take (i := 21) (v := undef) rfl (by kernel_rfl) (by kernel_rfl) (by kernel_rfl) (fun _ _ _ h => h) (Or.inr ⟨by kernel_rfl, rfl⟩) (by assumption) ?_
        simp only [Act.put, List.getElem_toArray, List.getElem_cons_succ, List.getElem_cons_zero, List.setIfInBounds_toArray, List.set_cons_zero, List.set_cons_succ]
        refine wpAnyH_take (i := 22) (v := undef) rfl (by kernel_rfl) (by kernel_rfl) (by kernel_rfl) (fun _ _ _ h => h) (Or.inr ⟨by kernel_rfl, rfl⟩) (by assumption) ?_
        simp only [Act.put, List.getElem_toArray, List.getElem_cons_succ, List.getElem_cons_zero, List.setIfInBounds_toArray, List.set_cons_zero, List.set_cons_succ]
        refine wpAnyH_take (i := 23) (v := undef) rfl (by kernel_rfl) (by kernel_rfl) (by kernel_rfl) (fun _ _ _ h => h) (Or.inr ⟨by kernel_rfl, rfl⟩) (by assumption) ?_
        simp only [Act.put, List.getElem_toArray, List.getElem_cons_succ, List.getElem_cons_zero, List.setIfInBounds_toArray, List.set_cons_zero, List.set_cons_succ]
        refine wpAnyH_take (i := 24) (v := undef) rfl (by kernel_rfl) (by kernel_rfl) (by kernel_rfl) (fun _ _ _ h => h) (Or.inr ⟨by kernel_rfl, rfl⟩) (by assumption) ?_
        simp only [Act.put, List.getElem_toArray, List.getElem_cons_succ, List.getElem_cons_zero, List.setIfInBounds_toArray, List.set_cons_zero, List.set_cons_succ]
        refine wpAnyH_take (i := 25) (v := undef) rfl (by kernel_rfl) (by kernel_rfl) (by kernel_rfl) (fun _ _ _ h => h) (Or.inr ⟨by kernel_rfl, rfl⟩) (by assumption) ?_
        simp only [Act.put, List.getElem_toArray, List.getElem_cons_succ, List.getElem_cons_zero, List.setIfInBounds_toArray, List.set_cons_zero, List.set_cons_succ]
        refine wpAnyH_take (i := 26) (v := undef) rfl (by kernel_rfl) (by kernel_rfl) (by kernel_rfl) (fun _ _ _ h => h) (Or.inr ⟨by kernel_rfl, rfl⟩) (by assumption) ?_
        simp only [Act.put, List.getElem_toArray, List.getElem_cons_succ, List.getElem_cons_zero, List.setIfInBounds_toArray, List.set_cons_zero, List.set_cons_succ]
        refine wpAnyH_take (i := 27) (v := undef) rfl (by kernel_rfl) (by kernel_rfl) (by kernel_rfl) (fun _ _ _ h => h) (Or.inr ⟨by kernel_rfl, rfl⟩) (by assumption) ?_
        simp only [Act.put, List.getElem_toArray, List.getElem_cons_succ, List.getElem_cons_zero, List.setIfInBounds_toArray, List.set_cons_zero, List.set_cons_succ]
        refine wpAnyH_take (i := 28) (v := undef) rfl (by kernel_rfl) (by kernel_rfl) (by kernel_rfl) (fun _ _ _ h => h) (Or.inr ⟨by kernel_rfl, rfl⟩) (by assumption) ?_
        simp only [Act.put, List.getElem_toArray, List.getElem_cons_succ, List.getElem_cons_zero, List.setIfInBounds_toArray, List.set_cons_zero, List.set_cons_succ]
        refine wpAnyH_take (i := 29) (v := undef) rfl (by kernel_rfl) (by kernel_rfl) (by kernel_rfl) (fun _ _ _ h => h) (Or.inr ⟨by kernel_rfl, rfl⟩) (by assumption) ?_
        simp only [Act.put, List.getElem_toArray, List.getElem_cons_succ, List.getElem_cons_zero, List.setIfInBounds_toArray, List.set_cons_zero, List.set_cons_succ]
        refine wpAnyH_take (i := 30) (v := undef) rfl (by kernel_rfl) (by kernel_rfl) (by kernel_rfl) (fun _ _ _ h => h) (Or.inr ⟨by kernel_rfl, rfl⟩) (by assumption) ?_
        simp only [Act.put, List.getElem_toArray, List.getElem_cons_succ, List.getElem_cons_zero, List.setIfInBounds_toArray, List.set_cons_zero, List.set_cons_succ]
        refine wpAnyH_take (i := 31) (v := ?_) rfl (by kernel_rfl) (by kernel_rfl) (by kernel_rfl) (fun _ _ _ h => h) (Or.inl ⟨by kernel_rfl, ?_⟩) (by assumption) ?_
        rotate_left
        · (intro w hSw; (try dsimp only at hSw); go_simp; (try with_reducible rfl))
        simp only [Act.put, List.getElem_toArray, List.getElem_cons_succ, List.getElem_cons_zero, List.setIfInBounds_toArray, List.set_cons_zero, List.set_cons_succ]
        refine wpAnyH_take (i := 32) (v := ?_) rfl (by kernel_rfl) (by kernel_rfl) (by kernel_rfl) (fun _ _ _ h => h) (Or.inl ⟨by kernel_rfl, ?_⟩) (by assumption) ?_
        rotate_left
        · (intro w hSw; (try dsimp only at hSw); go_simp; (try with_reducible rfl))
        simp only [Act.put, List.getElem_toArray, List.getElem_cons_succ, List.getElem_cons_zero, List.setIfInBounds_toArray, List.set_cons_zero, List.set_cons_succ]
        refine wpAnyH_done (by kernel_rfl) ?_ _
        refine NoPanic.normal ?_
        have HE := HB13
        have hst : m2 = 0 ∨ m2 = 1 ∨ (m2 ≠ 0 ∧ m2 ≠ 1) := by omega
        have r8 := (KP.out _ HE).1
        have q0 := r8 0 _ rfl
        have q2 := r8 2 _ rfl
        simp only [Nat.add_zero, Nat.zero_add] at q0 q2
        have HEE : Hid (Bl w4 _) := HZ.out.step HE
        obtain ⟨A, hA⟩ : ∃ A, (K.preL L i).length = A := ⟨_, rfl⟩
        have HPQ : Hid (∀ b, K.here (m0, m1, m2) = b → (K.preL L (i + 1)).length = A + if b = true then 1 else 0) := fun b hb => by rw [HPS.out, List.length_append, hA, hb]; cases b <;> rfl
        rw [hA] at HPA hal ⊢
        clear r8 hA HPS HE KP HZ heq C5
        rcases hst with rfl | rfl | ⟨hs0, hs1⟩
        · obtain ⟨bp, op, rfl, hAP, hcell⟩ := HPA.out rfl
          have q3 := hcell _ HEE.out
          have hA1 : ¬ ((P.length : Int) ≤ (A : Int)) := by omega
          have hA2 : ¬ (P.length ≤ A) := by omega
          have HQ1 := HPQ.out true rfl
          clear HPA hcell HPQ
          go_wp2_with fail
          go_quiet (fail)
          go_wp2_with fail
          go_roundw
          case rel => exact ⟨i + 1, by omega, by go_num, by rw [HQ1]; go_num, HEE.out.drewN _⟩
          case measure => simp [intOf]; omega
        · obtain ⟨bp, op, rfl, hAP, hcell⟩ := HPA.out rfl
          have q3 := hcell _ HEE.out
          have hA1 : ¬ ((P.length : Int) ≤ (A : Int)) := by omega
          have hA2 : ¬ (P.length ≤ A) := by omega
          have HQ1 := HPQ.out true rfl
          clear HPA hcell HPQ
          go_wp2_with fail
          go_quiet (fail)
          go_wp2_with fail
          go_roundw
          case rel => exact ⟨i + 1, by omega, by go_num, by rw [HQ1]; go_num, HEE.out.drewN _⟩
          case measure => simp [intOf]; omega
        · have hb : K.here (m0, m1, m2) = false := by simp [K.here, hs0, hs1]
          have e0 : (m2 == 0) = false := by simp [hs0]
          have e1 : (m2 == 1) = false := by simp [hs1]
          have HQ1 := HPQ.out false hb
          clear HPA HPQ hb hs0 hs1
          go_wp2_with fail
          go_roundw
          case rel => exact ⟨i + 1, by omega, by go_num, by rw [HQ1]; go_num, HEE.out⟩
          case measure => simp [intOf]; omega
      · obtain ⟨j, hj⟩ : ∃ j, i = j + 1 := ⟨i - 1, by omega⟩
        have hp1 : 0 < i := by omega
        have hp2 : decide ((0 : Int) < (i : Int)) = true := by simp; omega
        have hjw : IntKind.i64.wrap ((i : Int) - 1) = (j : Int) := by
          rw [show (i : Int) - 1 = (j : Int) by omega]
          simp only [IntKind.wrap, IntKind.bits, IntKind.signed]; simp; omega
        have hjl : (j : Int) < (L.length : Int) := by omega
        have hjn : j < L.length := by omega
        obtain ⟨m', hm'⟩ : ∃ m', L[j]? = some m' := ⟨L[j]'(by omega), List.getElem?_eq_getElem _⟩
        have hlt2 := HS.out j m' m hm' (by rw [← hj]; exact hm)
        clear hj
        have HRP := HRL.out j m' hm'
        clear hm'
        generalize m'.1 = n' at *
        have HRI := HRL.out i m hm
        clear hm HRL
        obtain ⟨m0, m1, m2⟩ := m
        simp only at *
        go_wp2_with (go_at_call 22; refine C4.out.mono ?_; clear C4; rintro e W1 ⟨rfl, HB1⟩)
        have HZ : Hid (Bl w4 (W1.alloc (.cells #[.int .i64 m0, .int .i64 m1, .int .i64 m2] 28))) := (HX.out.step HB1).alloc _
        have KP : Hid (∀ U, Bl (W1.alloc (.cells #[.int .i64 m0, .int .i64 m1, .int .i64 m2] 28)) U → U.rangeAt W1.heap.size 0 [.int .i64 m0, .int .i64 m1, .int .i64 m2] ∧ U.rangeAt b3 (o3 + i * 3) [.int .i64 m0, .int .i64 m1, .int .i64 m2] ∧ U.cell? ⟨b3, o3 + i * 3, none⟩ = some (.int .i64 m0) ∧ U.cell? ⟨b3, o3 + j * 3, none⟩ = some (.int .i64 n')) := fun U hU => by
          have r1 : U.rangeAt W1.heap.size 0 [.int .i64 m0, .int .i64 m1, .int .i64 m2] := range3 hU.box
          have r2 := HRI U (HZ.out.step hU)
          have r3 := HRP U (HZ.out.step hU)
          exact ⟨r1, r2, by have := r2 0 _ rfl; rwa [Nat.add_zero] at this, by have := r3 0 _ rfl; rwa [Nat.add_zero] at this⟩
        clear HB1 HX HRI k0 HRP
        generalize hZ : (W1.alloc (.cells #[.int .i64 m0, .int .i64 m1, .int .i64 m2] 28)) = Z at *
        generalize W1.heap.size = B8 at *
        (try simp only [List.append_eq, List.cons_append, List.nil_append])
        refine wp_region_noPanic ?_
        refine wp_region_held_drew (S := fun U => U.rangeAt B8 0 [.int .i64 m0, .int .i64 m1, .int .i64 m2] ∧ U.rangeAt b3 (o3 + i * 3) [.int .i64 m0, .int .i64 m1, .int .i64 m2] ∧ U.cell? ⟨b3, o3 + i * 3, none⟩ = some (.int .i64 m0) ∧ U.cell? ⟨b3, o3 + j * 3, none⟩ = some (.int .i64 n')) (by kernel_rfl) (KP.out _ ((Bl.refl Z).drewN 1)) (fun hHeld => ?_)
        refine wpAnyH_take (i := 0) rfl (by kernel_rfl) (by kernel_rfl) (by kernel_rfl) (fun _ _ _ h => h) (yi_move (by kernel_rfl) rfl rfl) (by assumption) ?_
        simp only [Act.put, List.getElem_toArray, List.getElem_cons_succ, List.getElem_cons_zero, List.setIfInBounds_toArray, List.set_cons_zero, List.set_cons_succ]
        refine wpAnyH_take (i := 1) (v := ?_) rfl (by kernel_rfl) (by kernel_rfl) (by kernel_rfl) (fun _ _ _ h => h) (Or.inl ⟨by kernel_rfl, ?_⟩) (by assumption) ?_
        rotate_left
        · (intro w hSw; (try dsimp only at hSw); go_simp; (try with_reducible rfl))
        simp only [Act.put, List.getElem_toArray, List.getElem_cons_succ, List.getElem_cons_zero, List.setIfInBounds_toArray, List.set_cons_zero, List.set_cons_succ]
        refine wpAnyH_take (i := 2) rfl (by kernel_rfl) (by kernel_rfl) (by kernel_rfl) (fun _ _ _ h => h) (yi_move (by kernel_rfl) rfl rfl) (by assumption) ?_
        simp only [Act.put, List.getElem_toArray, List.getElem_cons_succ, List.getElem_cons_zero, List.setIfInBounds_toArray, List.set_cons_zero, List.set_cons_succ]
        refine wpAnyH_take (i := 3) (v := .agg (List.toArray [.int .i64 m0, .int .i64 m1, .int .i64 m2])) rfl (by kernel_rfl) (by kernel_rfl) (by kernel_rfl) (fun _ _ _ h => h) (yieldsIf_load_mid (by kernel_rfl) _ (.tmp 8) (by kernel_rfl) B8 0 (by kernel_rfl) [.int .i64 m0, .int .i64 m1, .int .i64 m2] _ (fun W hW => hW.1) hum rfl infoMe) (by assumption) ?_
        simp only [Act.put, List.getElem_toArray, List.getElem_cons_succ, List.getElem_cons_zero, List.setIfInBounds_toArray, List.set_cons_zero, List.set_cons_succ]
        refine wpAnyH_take (i := 4) rfl (by kernel_rfl) (by kernel_rfl) (by kernel_rfl) (fun _ _ _ h => h) (yi_move (by kernel_rfl) rfl rfl) (by assumption) ?_
        simp only [Act.put, List.getElem_toArray, List.getElem_cons_succ, List.getElem_cons_zero, List.setIfInBounds_toArray, List.set_cons_zero, List.set_cons_succ]
        refine wpAnyH_take (i := 5) rfl (by kernel_rfl) (by kernel_rfl) (by kernel_rfl) (fun _ _ _ h => h) (yi_move (by kernel_rfl) rfl rfl) (by assumption) ?_
        simp only [Act.put, List.getElem_toArray, List.getElem_cons_succ, List.getElem_cons_zero, List.setIfInBounds_toArray, List.set_cons_zero, List.set_cons_succ]
        refine wpAnyH_take (i := 6) (v := ?_) rfl (by kernel_rfl) (by kernel_rfl) (by kernel_rfl) (fun _ _ _ h => h) (Or.inl ⟨by kernel_rfl, ?_⟩) (by assumption) ?_
        rotate_left
        · (intro w hSw; (try dsimp only at hSw); go_simp; (try with_reducible rfl))
        simp only [Act.put, List.getElem_toArray, List.getElem_cons_succ, List.getElem_cons_zero, List.setIfInBounds_toArray, List.set_cons_zero, List.set_cons_succ]
        refine wpAnyH_take (i := 7) (v := .agg (List.toArray [.int .i64 m0, .int .i64 m1, .int .i64 m2])) rfl (by kernel_rfl) (by kernel_rfl) (by kernel_rfl) (fun _ _ _ h => h) (yieldsIf_load_mid (by kernel_rfl) _ (.tmp 43) (by kernel_rfl) b3 (o3 + i * 3) (by kernel_rfl) [.int .i64 m0, .int .i64 m1, .int .i64 m2] _ (fun W hW => hW.2.1) hum rfl infoMe) (by assumption) ?_
        simp only [Act.put, List.getElem_toArray, List.getElem_cons_succ, List.getElem_cons_zero, List.setIfInBounds_toArray, List.set_cons_zero, List.set_cons_succ]
        refine wpAnyH_take (i := 8) (v := ?_) rfl (by kernel_rfl) (by kernel_rfl) (by kernel_rfl) (fun _ _ _ h => h) (Or.inl ⟨by kernel_rfl, ?_⟩) (by assumption) ?_
        rotate_left
        · (intro w hSw; (try dsimp only at hSw); go_simp; (try with_reducible rfl))
        simp only [Act.put, List.getElem_toArray, List.getElem_cons_succ, List.getElem_cons_zero, List.setIfInBounds_toArray, List.set_cons_zero, List.set_cons_succ]
        refine wpAnyH_take (i := 9) (v := ?_) rfl (by kernel_rfl) (by kernel_rfl) (by kernel_rfl) (fun _ _ _ h => h) (Or.inl ⟨by kernel_rfl, ?_⟩) (by assumption) ?_
        rotate_left
        · (intro w hSw; (try dsimp only at hSw); go_simp; (try with_reducible rfl))
        simp only [Act.put, List.getElem_toArray, List.getElem_cons_succ, List.getElem_cons_zero, List.setIfInBounds_toArray, List.set_cons_zero, List.set_cons_succ]
        refine wpAnyH_take (i := 10) rfl (by kernel_rfl) (by kernel_rfl) (by kernel_rfl) (fun _ _ _ h => h) (yi_move (by kernel_rfl) rfl rfl) (by assumption) ?_
        simp only [Act.put, List.getElem_toArray, List.getElem_cons_succ, List.getElem_cons_zero, List.setIfInBounds_toArray, List.set_cons_zero, List.set_cons_succ]
        refine wpAnyH_take (i := 11) (v := .agg (List.toArray [.int .i64 m0, .int .i64 m1, .int .i64 m2])) rfl (by kernel_rfl) (by kernel_rfl) (by kernel_rfl) (fun _ _ _ h => h) (yieldsIf_load_mid (by kernel_rfl) _ (.tmp 8) (by kernel_rfl) B8 0 (by kernel_rfl) [.int .i64 m0, .int .i64 m1, .int .i64 m2] _ (fun W hW => hW.1) hum rfl infoMe) (by assumption) ?_
        simp only [Act.put, List.getElem_toArray, List.getElem_cons_succ, List.getElem_cons_zero, List.setIfInBounds_toArray, List.set_cons_zero, List.set_cons_succ]
        refine wpAnyH_ready (rs := [12]) (by kernel_rfl) (by simp) ?_
        refine AllReadyH.cons (o := _) rfl (fun K hK => ?_) AllReadyH.nil
        go_simp
        go_at_call 18; refine (C5.out _ _ ((Bl.refl Z).drewN 1)).mono ?_; rintro e V13 ⟨rfl, HB13⟩
        refine hK.out _ _ (KP.out _ HB13) (fun hHeld => ?_)
        clear hK K
        (try simp only [Act.put, List.getElem_toArray, List.getElem_cons_succ, List.getElem_cons_zero, List.setIfInBounds_toArray, List.set_cons_zero, List.set_cons_succ])
        refine wpAnyH_take (i := 13) (v := ?_) rfl (by kernel_rfl) (by kernel_rfl) (by kernel_rfl) (fun _ _ _ h => h) (Or.inl ⟨by kernel_rfl, ?_⟩) (by assumption) ?_
        rotate_left
        · (intro w hSw; (try dsimp only at hSw); go_simp; (try with_reducible rfl))
        simp only [Act.put, List.getElem_toArray, List.getElem_cons_succ, List.getElem_cons_zero, List.setIfInBounds_toArray, List.set_cons_zero, List.set_cons_succ]
        refine wpAnyH_take (i := 14) (v := ?_) rfl (by kernel_rfl) (by kernel_rfl) (by kernel_rfl) (fun _ _ _ h => h) (Or.inl ⟨by kernel_rfl, ?_⟩) (by assumption) ?_
        rotate_left
        · (intro w hSw; (try dsimp only at hSw); go_simp; (try with_reducible rfl))
        simp only [Act.put, List.getElem_toArray, List.getElem_cons_succ, List.getElem_cons_zero, List.setIfInBounds_toArray, List.set_cons_zero, List.set_cons_succ]
        refine wpAnyH_take (i := 15) rfl (by kernel_rfl) (by kernel_rfl) (by kernel_rfl) (fun _ _ _ h => h) (yi_move (by kernel_rfl) rfl rfl) (by assumption) ?_
        simp only [Act.put, List.getElem_toArray, List.getElem_cons_succ, List.getElem_cons_zero, List.setIfInBounds_toArray, List.set_cons_zero, List.set_cons_succ]
        refine wpAnyH_take (i := 16) rfl (by kernel_rfl) (by kernel_rfl) (by kernel_rfl) (fun _ _ _ h => h) (yi_move (by kernel_rfl) rfl rfl) (by assumption) ?_
        simp only [Act.put, List.getElem_toArray, List.getElem_cons_succ, List.getElem_cons_zero, List.setIfInBounds_toArray, List.set_cons_zero, List.set_cons_succ]
        refine wpAnyH_take (i := 17) (v := ?_) rfl (by kernel_rfl) (by kernel_rfl) (by kernel_rfl) (fun _ _ _ h => h) (Or.inl ⟨by kernel_rfl, ?_⟩) (by assumption) ?_
        rotate_left
        · (intro w hSw; (try dsimp only at hSw); go_simp; (try with_reducible rfl))
        simp only [Act.put, List.getElem_toArray, List.getElem_cons_succ, List.getElem_cons_zero, List.setIfInBounds_toArray, List.set_cons_zero, List.set_cons_succ]
        refine wpAnyH_take (i := 18) rfl (by kernel_rfl) (by kernel_rfl) (by kernel_rfl) (fun _ _ _ h => h) (yi_move (by kernel_rfl) rfl rfl) (by assumption) ?_
        simp only [Act.put, List.getElem_toArray, List.getElem_cons_succ, List.getElem_cons_zero, List.setIfInBounds_toArray, List.set_cons_zero, List.set_cons_succ]
        refine wpAnyH_take (i := 19) rfl (by kernel_rfl) (by kernel_rfl) (by kernel_rfl) (fun _ _ _ h => h) (yi_move (by kernel_rfl) rfl rfl) (by assumption) ?_
        simp only [Act.put, List.getElem_toArray, List.getElem_cons_succ, List.getElem_cons_zero, List.setIfInBounds_toArray, List.set_cons_zero, List.set_cons_succ]
        refine wpAnyH_take (i := 20) rfl (by kernel_rfl) (by kernel_rfl) (by kernel_rfl) (fun _ _ _ h => h) (yi_move (by kernel_rfl) rfl rfl) (by assumption) ?_
        simp only [Act.put, List.getElem_toArray, List.getElem_cons_succ, List.getElem_cons_zero, List.setIfInBounds_toArray, List.set_cons_zero, List.set_cons_succ]
        refine wpAnyH_take (i := 21) (v := ?_) rfl (by kernel_rfl) (by kernel_rfl) (by kernel_rfl) (fun _ _ _ h => h) (Or.inl ⟨by kernel_rfl, ?_⟩) (by assumption) ?_
        rotate_left
        · (intro w hSw; (try dsimp only at hSw); go_simp; (try with_reducible rfl))
        simp only [Act.put, List.getElem_toArray, List.getElem_cons_succ, List.getElem_cons_zero, List.setIfInBounds_toArray, List.set_cons_zero, List.set_cons_succ]
        refine wpAnyH_take (i := 22) (v := ?_) rfl (by kernel_rfl) (by kernel_rfl) (by kernel_rfl) (fun _ _ _ h => h) (Or.inl ⟨by kernel_rfl, ?_⟩) (by assumption) ?_
        rotate_left
        · (intro w hSw; (try dsimp only at hSw); go_simp; (try with_reducible rfl))
        simp only [Act.put, List.getElem_toArray, List.getElem_cons_succ, List.getElem_cons_zero, List.setIfInBounds_toArray, List.set_cons_zero, List.set_cons_succ]
        refine wpAnyH_take (i := 23) (v := ?_) rfl (by kernel_rfl) (by kernel_rfl) (by kernel_rfl) (fun _ _ _ h => h) (Or.inl ⟨by kernel_rfl, ?_⟩) (by assumption) ?_
        rotate_left
        · (intro w hSw; (try dsimp only at hSw); go_simp; (try with_reducible rfl))
        simp only [Act.put, List.getElem_toArray, List.getElem_cons_succ, List.getElem_cons_zero, List.setIfInBounds_toArray, List.set_cons_zero, List.set_cons_succ]
        refine wpAnyH_take (i := 24) (v := ?_) rfl (by kernel_rfl) (by kernel_rfl) (by kernel_rfl) (fun _ _ _ h => h) (Or.inl ⟨by kernel_rfl, ?_⟩) (by assumption) ?_
        rotate_left
        · (intro w hSw; obtain ⟨s1, s2, s3, s4⟩ := hSw; clear s1 s2; go_simp; (try with_reducible rfl))
        simp only [Act.put, List.getElem_toArray, List.getElem_cons_succ, List.getElem_cons_zero, List.setIfInBounds_toArray, List.set_cons_zero, List.set_cons_succ]
        refine wpAnyH_take (i := 25) rfl (by kernel_rfl) (by kernel_rfl) (by kernel_rfl) (fun _ _ _ h => h) (yi_move (by kernel_rfl) rfl rfl) (by assumption) ?_
        simp only [Act.put, List.getElem_toArray, List.getElem_cons_succ, List.getElem_cons_zero, List.setIfInBounds_toArray, List.set_cons_zero, List.set_cons_succ]
        refine wpAnyH_take (i := 26) rfl (by kernel_rfl) (by kernel_rfl) (by kernel_rfl) (fun _ _ _ h => h) (yi_move (by kernel_rfl) rfl rfl) (by assumption) ?_
        simp only [Act.put, List.getElem_toArray, List.getElem_cons_succ, List.getElem_cons_zero, List.setIfInBounds_toArray, List.set_cons_zero, List.set_cons_succ]
        refine wpAnyH_take (i := 27) (v := ?_) rfl (by kernel_rfl) (by kernel_rfl) (by kernel_rfl) (fun _ _ _ h => h) (Or.inl ⟨by kernel_rfl, ?_⟩) (by assumption) ?_
        rotate_left
        · (intro w hSw; (try dsimp only at hSw); go_simp; (try with_reducible rfl))
        simp only [Act.put, List.getElem_toArray, List.getElem_cons_succ, List.getElem_cons_zero, List.setIfInBounds_toArray, List.set_cons_zero, List.set_cons_succ]
        refine wpAnyH_take (i := 28) (v := ?_) rfl (by kernel_rfl) (by kernel_rfl) (by kernel_rfl) (fun _ _ _ h => h) (Or.inl ⟨by kernel_rfl, ?_⟩) (by assumption) ?_
        rotate_left
        · (intro w hSw; (try dsimp only at hSw); go_simp; (try with_reducible rfl))
        simp only [Act.put, List.getElem_toArray, List.getElem_cons_succ, List.getElem_cons_zero, List.setIfInBounds_toArray, List.set_cons_zero, List.set_cons_succ]
        refine wpAnyH_take (i := 29) (v := ?_) rfl (by kernel_rfl) (by kernel_rfl) (by kernel_rfl) (fun _ _ _ h => h) (Or.inl ⟨by kernel_rfl, ?_⟩) (by assumption) ?_
        rotate_left
        · (intro w hSw; obtain ⟨s1, s2, s3, s4⟩ := hSw; clear s1 s2; go_simp; (try with_reducible rfl))
        simp only [Act.put, List.getElem_toArray, List.getElem_cons_succ, List.getElem_cons_zero, List.setIfInBounds_toArray, List.set_cons_zero, List.set_cons_succ]
        refine wpAnyH_take (i := 30) (v := ?_) rfl (by kernel_rfl) (by kernel_rfl) (by kernel_rfl) (fun _ _ _ h => h) (Or.inl ⟨by kernel_rfl, ?_⟩) (by assumption) ?_
        rotate_left
        · (intro w hSw; (try dsimp only at hSw); go_simp; (try with_reducible rfl))
        simp only [Act.put, List.getElem_toArray, List.getElem_cons_succ, List.getElem_cons_zero, List.setIfInBounds_toArray, List.set_cons_zero, List.set_cons_succ]
        refine wpAnyH_take (i := 31) (v := ?_) rfl (by kernel_rfl) (by kernel_rfl) (by kernel_rfl) (fun _ _ _ h => h) (Or.inl ⟨by kernel_rfl, ?_⟩) (by assumption) ?_
        rotate_left
        · (intro w hSw; (try dsimp only at hSw); go_simp; (try with_reducible rfl))
        simp only [Act.put, List.getElem_toArray, List.getElem_cons_succ, List.getElem_cons_zero, List.setIfInBounds_toArray, List.set_cons_zero, List.set_cons_succ]
        refine wpAnyH_take (i := 32) (v := ?_) rfl (by kernel_rfl) (by kernel_rfl) (by kernel_rfl) (fun _ _ _ h => h) (Or.inl ⟨by kernel_rfl, ?_⟩) (by assumption) ?_
        rotate_left
        · (intro w hSw; (try dsimp only at hSw); go_simp; (try with_reducible rfl))
        simp only [Act.put, List.getElem_toArray, List.getElem_cons_succ, List.getElem_cons_zero, List.setIfInBounds_toArray, List.set_cons_zero, List.set_cons_succ]
        refine wpAnyH_done (by kernel_rfl) ?_ _
        refine NoPanic.normal ?_
        have HE := HB13
        have hst : m2 = 0 ∨ m2 = 1 ∨ (m2 ≠ 0 ∧ m2 ≠ 1) := by omega
        have r8 := (KP.out _ HE).1
        have q0 := r8 0 _ rfl
        have q2 := r8 2 _ rfl
        simp only [Nat.add_zero, Nat.zero_add] at q0 q2
        have HEE : Hid (Bl w4 _) := HZ.out.step HE
        obtain ⟨A, hA⟩ : ∃ A, (K.preL L i).length = A := ⟨_, rfl⟩
        have HPQ : Hid (∀ b, K.here (m0, m1, m2) = b → (K.preL L (i + 1)).length = A + if b = true then 1 else 0) := fun b hb => by rw [HPS.out, List.length_append, hA, hb]; cases b <;> rfl
        rw [hA] at HPA hal ⊢
        clear r8 hA HPS HE KP HZ heq C5
        rcases hst with rfl | rfl | ⟨hs0, hs1⟩
        · obtain ⟨bp, op, rfl, hAP, hcell⟩ := HPA.out rfl
          have q3 := hcell _ HEE.out
          have hA1 : ¬ ((P.length : Int) ≤ (A : Int)) := by omega
          have hA2 : ¬ (P.length ≤ A) := by omega
          have HQ1 := HPQ.out true rfl
          clear HPA hcell HPQ
          go_wp2_with fail
          go_quiet (fail)
          go_wp2_with fail
          go_roundw
          case rel => exact ⟨i + 1, by omega, by go_num, by rw [HQ1]; go_num, HEE.out.drewN _⟩
          case measure => simp [intOf]; omega
        · obtain ⟨bp, op, rfl, hAP, hcell⟩ := HPA.out rfl
          have q3 := hcell _ HEE.out
          have hA1 : ¬ ((P.length : Int) ≤ (A : Int)) := by omega
          have hA2 : ¬ (P.length ≤ A) := by omega
          have HQ1 := HPQ.out true rfl
          clear HPA hcell HPQ
          go_wp2_with fail
          go_quiet (fail)
          go_wp2_with fail
          go_roundw
          case rel => exact ⟨i + 1, by omega, by go_num, by rw [HQ1]; go_num, HEE.out.drewN _⟩
          case measure => simp [intOf]; omega
        · have hb : K.here (m0, m1, m2) = false := by simp [K.here, hs0, hs1]
          have e0 : (m2 == 0) = false := by simp [hs0]
          have e1 : (m2 == 1) = false := by simp [hs1]
          have HQ1 := HPQ.out false hb
          clear HPA HPQ hb hs0 hs1
          go_wp2_with fail
          go_roundw
          case rel => exact ⟨i + 1, by omega, by go_num, by rw [HQ1]; go_num, HEE.out⟩
          case measure => simp [intOf]; omega
    · obtain rfl : i = L.length := by omega
      have HX : Hid (Bl w wr) := HB0.out.step hx
      have hPl : (K.preL L L.length).length = P.length := by rw [HP.out]
      rw [hPl]
      clear hx HP hPl
      go_wp2_with fail
      go_ret
      exact ⟨by simp, HX.out⟩
end Go.Proofs.Ytgnnlnhhikmneaa
