/- The walk of the law RankExact. -/
import Derived.Test.YtgnnlnhhikmneaaKx0
import Derived.Test.YtgnnlnhhikmneaaRegT
namespace Go.Proofs.Ytgnnlnhhikmneaa
open Go.RowKit Go.Maps
set_option linter.unusedVariables false
set_option linter.unusedSimpArgs false

/-- rows of members: slices in a row -/
def lyR : Lay (Option Addr × Nat × List K.Me) := ⟨1, fun x => [.slice x.1 x.2.2.length x.2.1], fun _ => rfl, fun x u hu => by simp at hu; subst hu; rfl, by decide⟩
def rowOk (w : World) (x : Option Addr × Nat × List K.Me) : Prop := RS lyM w x.1 x.2.2 ∧ x.2.2.length ≤ 9223372036854775807 ∧ ∀ m ∈ x.2.2, i64 m.1
def z28 : Array Value := #[.int .i64 0, .int .i64 0, .int .i64 0, .int .i64 0, .int .i64 0, .int .i64 0, .int .i64 0, .int .i64 0, .int .i64 0, .int .i64 0, .int .i64 0, .int .i64 0, .int .i64 0, .int .i64 0, .int .i64 0, .int .i64 0, .int .i64 0, .int .i64 0, .int .i64 0, .int .i64 0, .int .i64 0, .bool false, .bool false, .bool false, .bool false, .bool false, .bool false, .bool false]
theorem z28_ok : RVC z28 K.e0 := by
  refine ⟨rfl, fun j hj => ?_⟩
  rcases (by omega : j = 0 ∨ j = 1 ∨ j = 2 ∨ j = 3 ∨ j = 4 ∨ j = 5 ∨ j = 6) with rfl | rfl | rfl | rfl | rfl | rfl | rfl <;> exact ⟨rfl, rfl, rfl, rfl⟩
theorem out_none {f : K.Vw} (h : K.Ok f) {k : Int} (hk : k < 1 ∨ 6 < k) : f k = none := by
  cases hf : f k with
  | none => rfl
  | some m =>
    obtain ⟨g, e⟩ := h k m hf
    have := g.1; have := g.2.1
    omega
set_option maxRecDepth 8000 in
set_option maxHeartbeats 64000000 in
theorem rankExact_walk (w : World) (L : List (Option Addr × Nat × List K.Me)) (a : Option Addr) (c : Nat) (hv : RS lyR w a L) (hn : L.length ≤ 9223372036854775807) (hok : ∀ x ∈ L, rowOk w x) (nd : Int) (hnd : i64 nd) :
    Calls Try.prog 3 #[.slice a L.length c, .int .i64 nd] w fun e w' => e = .returned (.bool true) ∧ Bl w w' := by
  have C0 : Hid (Calls Try.prog 8 #[] w fun e w' => e = .returned (.bool true) ∧ Bl w w') := awake_10 w
  by_cases h1 : 40 < L.length
  · go_enter Try.func3, Try.ntmps3
    go_wp2_with (go_at_call 8; refine C0.out.mono ?_; clear C0; rintro e w1 ⟨rfl, HB⟩)
    go_ret
    exact ⟨rfl, HB⟩
  have C1 : Hid (∀ W, Bl w W → Calls Try.prog 9 #[.slice none 0 0] W fun e w' => ∃ q b, e = .returned (.pointer (some ⟨q, 0, none⟩)) ∧ VT w q b K.e0 0 w') := fun W h => (New_x W [] none 0 (RS.nil _ _ _) (by simp) (fun m hm => by simp at hm)).mono fun e w' ⟨q, b, h1, h2⟩ => ⟨q, b, h1, h2.row, h2.mp, by have := h2.q0; have := Below.size h; omega, by have := h2.b0; have := Below.size h; omega, h.step h2.bl⟩
  have HV : Hid (RS lyR w a L) := hv
  have HO : Hid (∀ x ∈ L, rowOk w x) := hok
  obtain ⟨fs, hum⟩ := undMe
  clear hv hok
  go_enter Try.func3, Try.ntmps3
  go_wp2_with (first
    | (go_at_call 8; refine C0.out.mono ?_; clear C0; rintro e w1 ⟨rfl, HB⟩)
    | (go_at_call 9; refine (C1.out _ HB).mono ?_; clear C1 HB; rintro e w2 ⟨q, b, rfl, HVT⟩))
  have H0 : Hid (E2 w q b w2.heap.size K.e0 K.e0 0 [] [] [] (w2.alloc (.cells z28 32))) := by
    have y := HVT.grow ((Bl.refl w2).alloc (.cells z28 32))
    exact ⟨y, ⟨z28, heap_alloc_new w2 _, z28_ok⟩, Below.size HVT.bl, fun p hp => by simp at hp, fun p hp => by simp at hp, fun p hp => by simp at hp⟩
  clear HVT
  unfold z28 at H0
  generalize w2.heap.size = r at *
  go_loopw [7, 8, 9, 10] (fun u7 u8 u9 u10 wr => ∃ (i N : Nat) (F : K.Vw), i ≤ L.length ∧ u7 = .int .i64 i ∧ N ≤ 40 * i ∧ K.Ok F ∧ E2 w q b r F F N [] [] [] wr) (fun u7 _ _ _ _ => L.length - (intOf u7).toNat)
  case atStart => exact ⟨0, 0, K.e0, Nat.zero_le _, rfl, by omega, K.ok_e0, H0.out⟩
  case round =>
    obtain ⟨i, N, F, hi, rfl, hN, hF, hx⟩ := hrel
    clear H0
    by_cases hlt : i < L.length
    · obtain ⟨x, hxi⟩ : ∃ x, L[i]? = some x := ⟨L[i], List.getElem?_eq_getElem hlt⟩
      obtain ⟨b0, o0, rfl, hb0, hrg⟩ := (HV.out.bl hx.vt.bl) i x hxi
      obtain ⟨hr1, hr2, hr3⟩ := HO.out x (List.mem_of_getElem? hxi)
      obtain ⟨ai, ci, l⟩ := x
      simp only at hr1 hr2 hr3
      have HC : Hid (∀ U, Bl w U → U.cell? ⟨b0, o0 + i, none⟩ = some (.slice ai l.length ci)) := fun U hU => by
        obtain ⟨b', o', e1, e2, e3⟩ := (HV.out.bl hU) i _ hxi
        cases e1
        have := e3 0 _ rfl
        simpa [lyR] using this
      have k0 := HC.out wr hx.vt.bl
      clear hrg hxi
      by_cases hbig : 40 < l.length
      · clear HC HV HO
        have HX : Hid (Bl w wr) := hx.vt.bl
        clear hx
        go_wp2_with fail
        go_ret
        exact ⟨rfl, HX.out⟩
      · have hF2 : K.Ok (K.mrg F l) := K.ok_mrg l hF
        have D5 : Hid (∀ U, E2 w q b r F F N [] [] [] U → Calls Try.prog 11 #[.pointer (some ⟨q, 0, none⟩), .slice ai l.length ci] U fun e w' => ∃ a' c', e = .returned (.slice a' (K.tak F l).length c') ∧ E2 w q b r (K.mrg F l) F (N + l.length) [(a', K.tak F l)] [] [] w') := fun U h => h.merge l ai ci hr1 (by omega) (by omega) hr3
        have D11 : Hid (∀ U p, E2 w q b r (K.mrg F l) F (N + l.length) [p] [] [] U → Calls Try.prog 12 #[.pointer (some ⟨r, 0, none⟩), .slice ai l.length ci] U fun e w' => ∃ a' c', e = .returned (.slice a' (K.tak F l).length c') ∧ E2 w q b r (K.mrg F l) (K.mrg F l) (N + l.length) [] [(a', K.tak F l), p] [] w') := fun U p h => h.rmerge l ai ci hr1 (by omega)
        have HTL : Hid ((K.tak F l).length ≤ 9223372036854775807) := Nat.le_trans (K.tak_len _ _) hr2
        have HE9 : Hid (∀ U r1 r2 is, E2 w q b r (K.mrg F l) (K.mrg F l) (N + l.length) r1 r2 is U → E2 w q b r (K.mrg F l) (K.mrg F l) (N + l.length) [] [] [] U) := fun U r1 r2 is h => h.bare
        obtain ⟨G, hG⟩ : ∃ G, K.mrg F l = G := ⟨_, rfl⟩
        obtain ⟨TK, hTK⟩ : ∃ G, K.tak F l = G := ⟨_, rfl⟩
        rw [hG] at D5 D11 hF2 HE9
        rw [hTK] at D5 D11 HTL
        have hal : (K.all G).length ≤ 6 := K.allN_len G 6
        have hpl : (K.pres G).length ≤ 6 := preN_len G 6
        have ES1 : Hid (∀ U a1 a2 c1 c2 r2, E2 w q b r G G (N + l.length) [] r2 [] U → (a1, TK) ∈ r2 → (a2, TK) ∈ r2 → Calls Try.prog 10 #[.slice a1 TK.length c1, .slice a2 TK.length c2] U fun e w' => e = .returned (.bool true) ∧ E2 w q b r G G (N + l.length) [] r2 [] w') := fun U a1 a2 c1 c2 r2 h h1 h2 => h.same TK a1 a2 c1 c2 h1 h2 HTL.out
        have D16 : Hid (∀ U r2, E2 w q b r G G (N + l.length) [] r2 [] U → Calls Try.prog 13 #[.pointer (some ⟨q, 0, none⟩)] U fun e w' => ∃ a' c', e = .returned (.slice a' (K.all G).length c') ∧ E2 w q b r G G (N + l.length) [] ((a', K.all G) :: r2) [] w') := fun U r2 h => h.all
        have D18 : Hid (∀ U r2, E2 w q b r G G (N + l.length) [] r2 [] U → Calls Try.prog 14 #[.pointer (some ⟨r, 0, none⟩)] U fun e w' => ∃ a' c', e = .returned (.slice a' (K.all G).length c') ∧ E2 w q b r G G (N + l.length) [] ((a', K.all G) :: r2) [] w') := fun U r2 h => h.rall
        have ES2 : Hid (∀ U a1 a2 c1 c2 r2, E2 w q b r G G (N + l.length) [] r2 [] U → (a1, K.all G) ∈ r2 → (a2, K.all G) ∈ r2 → Calls Try.prog 10 #[.slice a1 (K.all G).length c1, .slice a2 (K.all G).length c2] U fun e w' => e = .returned (.bool true) ∧ E2 w q b r G G (N + l.length) [] r2 [] w') := fun U a1 a2 c1 c2 r2 h h1 h2 => h.same (K.all G) a1 a2 c1 c2 h1 h2 (by omega)
        have D24 : Hid (∀ U r2 is, E2 w q b r G G (N + l.length) [] r2 is U → Calls Try.prog 16 #[.pointer (some ⟨q, 0, none⟩)] U fun e w' => ∃ a' c', e = .returned (.slice a' (K.pres G).length c') ∧ E2 w q b r G G (N + l.length) [] r2 ((a', K.pres G) :: is) w') := fun U r2 is h => h.pres
        have D26 : Hid (∀ U r2 is, E2 w q b r G G (N + l.length) [] r2 is U → Calls Try.prog 17 #[.pointer (some ⟨r, 0, none⟩)] U fun e w' => ∃ a' c', e = .returned (.slice a' (K.pres G).length c') ∧ E2 w q b r G G (N + l.length) [] r2 ((a', K.pres G) :: is) w') := fun U r2 is h => h.rpres hF2
        have D27 : Hid (∀ U a1 a2 c1 c2 r2 is, E2 w q b r G G (N + l.length) [] r2 is U → (a1, K.pres G) ∈ is → (a2, K.pres G) ∈ is → Calls Try.prog 15 #[.slice a1 (K.pres G).length c1, .slice a2 (K.pres G).length c2] U fun e w' => e = .returned (.bool true) ∧ E2 w q b r G G (N + l.length) [] r2 is w') := fun U a1 a2 c1 c2 r2 is h h1 h2 => h.ints (K.pres G) a1 a2 c1 c2 h1 h2 (by omega)
        have HX : E2 w q b r F F N [] [] [] wr := hx
        have hNN : N + l.length ≤ 40 * (i + 1) := by omega
        have HR1 : Hid (RS lyM w ai l) := hr1
        clear hx hG hTK hr1 hF hal hpl
        generalize (K.all G) = AL at *
        generalize (K.pres G) = PL at *
        generalize AL.length = nAL at *
        generalize PL.length = nPL at *
        generalize TK.length = nTK at *
        go_wp2_with fail
        (try simp only [List.append_eq, List.cons_append, List.nil_append])
        clear k0
        refine wp_region_noPanic ?_
        refine wp_region_held_drew (S := fun U => U.cell? ⟨b0, o0 + i, none⟩ = some (.slice ai l.length ci)) (by kernel_rfl) (HC.out _ ((HX.grow ((Bl.refl _).drewN 1))).vt.bl) (fun hHeld => ?_)
        refine wpAnyH_take (i := 0) rfl (by kernel_rfl) (by kernel_rfl) (by kernel_rfl) (fun _ _ _ h => h) (yi_move (by kernel_rfl) rfl rfl) (by assumption) ?_
        simp only [Act.put, List.getElem_toArray, List.getElem_cons_succ, List.getElem_cons_zero, List.setIfInBounds_toArray, List.set_cons_zero, List.set_cons_succ]
        refine wpAnyH_take (i := 1) rfl (by kernel_rfl) (by kernel_rfl) (by kernel_rfl) (fun _ _ _ h => h) (yi_move (by kernel_rfl) rfl rfl) (by assumption) ?_
        simp only [Act.put, List.getElem_toArray, List.getElem_cons_succ, List.getElem_cons_zero, List.setIfInBounds_toArray, List.set_cons_zero, List.set_cons_succ]
        refine wpAnyH_take (i := 2) rfl (by kernel_rfl) (by kernel_rfl) (by kernel_rfl) (fun _ _ _ h => h) (yi_move (by kernel_rfl) rfl rfl) (by assumption) ?_
        simp only [Act.put, List.getElem_toArray, List.getElem_cons_succ, List.getElem_cons_zero, List.setIfInBounds_toArray, List.set_cons_zero, List.set_cons_succ]
        refine wpAnyH_take (i := 3) (v := ?_) rfl (by kernel_rfl) (by kernel_rfl) (by kernel_rfl) (fun _ _ _ h => h) (Or.inl ⟨by kernel_rfl, ?_⟩) (by assumption) ?_
        rotate_left
        · (intro w hSw; (try dsimp only at hSw); go_simp; (try with_reducible rfl))
        simp only [Act.put, List.getElem_toArray, List.getElem_cons_succ, List.getElem_cons_zero, List.setIfInBounds_toArray, List.set_cons_zero, List.set_cons_succ]
        refine wpAnyH_take (i := 4) (v := ?_) rfl (by kernel_rfl) (by kernel_rfl) (by kernel_rfl) (fun _ _ _ h => h) (Or.inl ⟨by kernel_rfl, ?_⟩) (by assumption) ?_
        rotate_left
        · (intro w hSw; (try dsimp only at hSw); go_simp; (try with_reducible rfl))
        simp only [Act.put, List.getElem_toArray, List.getElem_cons_succ, List.getElem_cons_zero, List.setIfInBounds_toArray, List.set_cons_zero, List.set_cons_succ]
        refine wpAnyH_take (i := 6) rfl (by kernel_rfl) (by kernel_rfl) (by kernel_rfl) (fun _ _ _ h => h) (yi_move (by kernel_rfl) rfl rfl) (by assumption) ?_
        simp only [Act.put, List.getElem_toArray, List.getElem_cons_succ, List.getElem_cons_zero, List.setIfInBounds_toArray, List.set_cons_zero, List.set_cons_succ]
        refine wpAnyH_take (i := 7) rfl (by kernel_rfl) (by kernel_rfl) (by kernel_rfl) (fun _ _ _ h => h) (yi_move (by kernel_rfl) rfl rfl) (by assumption) ?_
        simp only [Act.put, List.getElem_toArray, List.getElem_cons_succ, List.getElem_cons_zero, List.setIfInBounds_toArray, List.set_cons_zero, List.set_cons_succ]
        refine wpAnyH_take (i := 8) rfl (by kernel_rfl) (by kernel_rfl) (by kernel_rfl) (fun _ _ _ h => h) (yi_move (by kernel_rfl) rfl rfl) (by assumption) ?_
        simp only [Act.put, List.getElem_toArray, List.getElem_cons_succ, List.getElem_cons_zero, List.setIfInBounds_toArray, List.set_cons_zero, List.set_cons_succ]
        refine wpAnyH_take (i := 9) (v := ?_) rfl (by kernel_rfl) (by kernel_rfl) (by kernel_rfl) (fun _ _ _ h => h) (Or.inl ⟨by kernel_rfl, ?_⟩) (by assumption) ?_
        rotate_left
        · (intro w hSw; (try dsimp only at hSw); go_simp; (try with_reducible rfl))
        simp only [Act.put, List.getElem_toArray, List.getElem_cons_succ, List.getElem_cons_zero, List.setIfInBounds_toArray, List.set_cons_zero, List.set_cons_succ]
        refine wpAnyH_take (i := 10) (v := ?_) rfl (by kernel_rfl) (by kernel_rfl) (by kernel_rfl) (fun _ _ _ h => h) (Or.inl ⟨by kernel_rfl, ?_⟩) (by assumption) ?_
        rotate_left
        · (intro w hSw; (try dsimp only at hSw); go_simp; (try with_reducible rfl))
        simp only [Act.put, List.getElem_toArray, List.getElem_cons_succ, List.getElem_cons_zero, List.setIfInBounds_toArray, List.set_cons_zero, List.set_cons_succ]
        refine wpAnyH_ready (rs := [5]) (by kernel_rfl) (by simp) ?_
        refine AllReadyH.cons (o := _) rfl (fun K hK => ?_) AllReadyH.nil
        go_simp
        go_at_call 11; refine (D5.out _ (HX.grow ((Bl.refl _).drewN 1))).mono ?_; rintro e V11 ⟨a11, c11, rfl, HB11⟩
        (try clear hHeld)
        refine hK.out _ _ (HC.out _ (HB11).vt.bl) (fun hHeld => ?_)
        clear hK K
        (try simp only [Act.put, List.getElem_toArray, List.getElem_cons_succ, List.getElem_cons_zero, List.setIfInBounds_toArray, List.set_cons_zero, List.set_cons_succ])
        refine wpAnyH_ready (rs := [11]) (by kernel_rfl) (by simp) ?_
        refine AllReadyH.cons (o := _) rfl (fun K hK => ?_) AllReadyH.nil
        go_simp
        go_at_call 12; refine (D11.out _ _ HB11).mono ?_; rintro e V12 ⟨a12, c12, rfl, HB12⟩
        (try clear hHeld)
        refine hK.out _ _ (HC.out _ (HB12).vt.bl) (fun hHeld => ?_)
        clear hK K
        (try simp only [Act.put, List.getElem_toArray, List.getElem_cons_succ, List.getElem_cons_zero, List.setIfInBounds_toArray, List.set_cons_zero, List.set_cons_succ])
        refine wpAnyH_ready (rs := [12]) (by kernel_rfl) (by simp) ?_
        refine AllReadyH.cons (o := _) rfl (fun K hK => ?_) AllReadyH.nil
        go_simp
        go_at_call 10; refine (ES1.out _ _ _ _ _ _ HB12 (by simp) (by simp)).mono ?_; rintro e V13 ⟨rfl, HB13⟩
        (try clear hHeld)
        refine hK.out _ _ (HC.out _ (HB13).vt.bl) (fun hHeld => ?_)
        clear hK K
        (try simp only [Act.put, List.getElem_toArray, List.getElem_cons_succ, List.getElem_cons_zero, List.setIfInBounds_toArray, List.set_cons_zero, List.set_cons_succ])
        refine wpAnyH_take (i := 13) (v := ?_) rfl (by kernel_rfl) (by kernel_rfl) (by kernel_rfl) (fun _ _ _ h => h) (Or.inl ⟨by kernel_rfl, ?_⟩) (by assumption) ?_
        rotate_left
        · (intro w hSw; (try dsimp only at hSw); go_simp; (try with_reducible rfl))
        simp only [Act.put, List.getElem_toArray, List.getElem_cons_succ, List.getElem_cons_zero, List.setIfInBounds_toArray, List.set_cons_zero, List.set_cons_succ]
        refine wpAnyH_take (i := 14) rfl (by kernel_rfl) (by kernel_rfl) (by kernel_rfl) (fun _ _ _ h => h) (yi_move (by kernel_rfl) rfl rfl) (by assumption) ?_
        simp only [Act.put, List.getElem_toArray, List.getElem_cons_succ, List.getElem_cons_zero, List.setIfInBounds_toArray, List.set_cons_zero, List.set_cons_succ]
        refine wpAnyH_take (i := 15) rfl (by kernel_rfl) (by kernel_rfl) (by kernel_rfl) (fun _ _ _ h => h) (yi_move (by kernel_rfl) rfl rfl) (by assumption) ?_
        simp only [Act.put, List.getElem_toArray, List.getElem_cons_succ, List.getElem_cons_zero, List.setIfInBounds_toArray, List.set_cons_zero, List.set_cons_succ]
        refine wpAnyH_take (i := 17) rfl (by kernel_rfl) (by kernel_rfl) (by kernel_rfl) (fun _ _ _ h => h) (yi_move (by kernel_rfl) rfl rfl) (by assumption) ?_
        simp only [Act.put, List.getElem_toArray, List.getElem_cons_succ, List.getElem_cons_zero, List.setIfInBounds_toArray, List.set_cons_zero, List.set_cons_succ]
        refine wpAnyH_ready (rs := [16]) (by kernel_rfl) (by simp) ?_
        refine AllReadyH.cons (o := _) rfl (fun K hK => ?_) AllReadyH.nil
        go_simp
        go_at_call 13; refine (D16.out _ _ HB13).mono ?_; rintro e V18 ⟨a18, c18, rfl, HB18⟩
        (try clear hHeld)
        refine hK.out _ _ (HC.out _ (HB18).vt.bl) (fun hHeld => ?_)
        clear hK K
        (try simp only [Act.put, List.getElem_toArray, List.getElem_cons_succ, List.getElem_cons_zero, List.setIfInBounds_toArray, List.set_cons_zero, List.set_cons_succ])
        refine wpAnyH_ready (rs := [18]) (by kernel_rfl) (by simp) ?_
        refine AllReadyH.cons (o := _) rfl (fun K hK => ?_) AllReadyH.nil
        go_simp
        go_at_call 14; refine (D18.out _ _ HB18).mono ?_; rintro e V19 ⟨a19, c19, rfl, HB19⟩
        (try clear hHeld)
        refine hK.out _ _ (HC.out _ (HB19).vt.bl) (fun hHeld => ?_)
        clear hK K
        (try simp only [Act.put, List.getElem_toArray, List.getElem_cons_succ, List.getElem_cons_zero, List.setIfInBounds_toArray, List.set_cons_zero, List.set_cons_succ])
        refine wpAnyH_ready (rs := [19]) (by kernel_rfl) (by simp) ?_
        refine AllReadyH.cons (o := _) rfl (fun K hK => ?_) AllReadyH.nil
        go_simp
        go_at_call 10; refine (ES2.out _ _ _ _ _ _ HB19 (by simp) (by simp)).mono ?_; rintro e V20 ⟨rfl, HB20⟩
        (try clear hHeld)
        refine hK.out _ _ (HC.out _ (HB20).vt.bl) (fun hHeld => ?_)
        clear hK K
        (try simp only [Act.put, List.getElem_toArray, List.getElem_cons_succ, List.getElem_cons_zero, List.setIfInBounds_toArray, List.set_cons_zero, List.set_cons_succ])
        refine wpAnyH_take (i := 20) (v := ?_) rfl (by kernel_rfl) (by kernel_rfl) (by kernel_rfl) (fun _ _ _ h => h) (Or.inl ⟨by kernel_rfl, ?_⟩) (by assumption) ?_
        rotate_left
        · (intro w hSw; (try dsimp only at hSw); go_simp; (try with_reducible rfl))
        simp only [Act.put, List.getElem_toArray, List.getElem_cons_succ, List.getElem_cons_zero, List.setIfInBounds_toArray, List.set_cons_zero, List.set_cons_succ]
        refine wpAnyH_take (i := 21) (v := ?_) rfl (by kernel_rfl) (by kernel_rfl) (by kernel_rfl) (fun _ _ _ h => h) (Or.inl ⟨by kernel_rfl, ?_⟩) (by assumption) ?_
        rotate_left
        · (intro w hSw; (try dsimp only at hSw); go_simp; (try with_reducible rfl))
        simp only [Act.put, List.getElem_toArray, List.getElem_cons_succ, List.getElem_cons_zero, List.setIfInBounds_toArray, List.set_cons_zero, List.set_cons_succ]
        refine wpAnyH_take (i := 22) rfl (by kernel_rfl) (by kernel_rfl) (by kernel_rfl) (fun _ _ _ h => h) (yi_move (by kernel_rfl) rfl rfl) (by assumption) ?_
        simp only [Act.put, List.getElem_toArray, List.getElem_cons_succ, List.getElem_cons_zero, List.setIfInBounds_toArray, List.set_cons_zero, List.set_cons_succ]
        refine wpAnyH_take (i := 23) rfl (by kernel_rfl) (by kernel_rfl) (by kernel_rfl) (fun _ _ _ h => h) (yi_move (by kernel_rfl) rfl rfl) (by assumption) ?_
        simp only [Act.put, List.getElem_toArray, List.getElem_cons_succ, List.getElem_cons_zero, List.setIfInBounds_toArray, List.set_cons_zero, List.set_cons_succ]
        refine wpAnyH_take (i := 25) rfl (by kernel_rfl) (by kernel_rfl) (by kernel_rfl) (fun _ _ _ h => h) (yi_move (by kernel_rfl) rfl rfl) (by assumption) ?_
        simp only [Act.put, List.getElem_toArray, List.getElem_cons_succ, List.getElem_cons_zero, List.setIfInBounds_toArray, List.set_cons_zero, List.set_cons_succ]
        refine wpAnyH_ready (rs := [24]) (by kernel_rfl) (by simp) ?_
        refine AllReadyH.cons (o := _) rfl (fun K hK => ?_) AllReadyH.nil
        go_simp
        go_at_call 16; refine (D24.out _ _ _ HB20).mono ?_; rintro e V26 ⟨a26, c26, rfl, HB26⟩
        (try clear hHeld)
        refine hK.out _ _ (HC.out _ (HB26).vt.bl) (fun hHeld => ?_)
        clear hK K
        (try simp only [Act.put, List.getElem_toArray, List.getElem_cons_succ, List.getElem_cons_zero, List.setIfInBounds_toArray, List.set_cons_zero, List.set_cons_succ])
        refine wpAnyH_ready (rs := [26]) (by kernel_rfl) (by simp) ?_
        refine AllReadyH.cons (o := _) rfl (fun K hK => ?_) AllReadyH.nil
        go_simp
        go_at_call 17; refine (D26.out _ _ _ HB26).mono ?_; rintro e V27 ⟨a27, c27, rfl, HB27⟩
        (try clear hHeld)
        refine hK.out _ _ (HC.out _ (HB27).vt.bl) (fun hHeld => ?_)
        clear hK K
        (try simp only [Act.put, List.getElem_toArray, List.getElem_cons_succ, List.getElem_cons_zero, List.setIfInBounds_toArray, List.set_cons_zero, List.set_cons_succ])
        refine wpAnyH_ready (rs := [27]) (by kernel_rfl) (by simp) ?_
        refine AllReadyH.cons (o := _) rfl (fun K hK => ?_) AllReadyH.nil
        go_simp
        go_at_call 15; refine (D27.out _ _ _ _ _ _ _ HB27 (by simp) (by simp)).mono ?_; rintro e V28 ⟨rfl, HB28⟩
        (try clear hHeld)
        refine hK.out _ _ (HC.out _ (HB28).vt.bl) (fun hHeld => ?_)
        clear hK K
        (try simp only [Act.put, List.getElem_toArray, List.getElem_cons_succ, List.getElem_cons_zero, List.setIfInBounds_toArray, List.set_cons_zero, List.set_cons_succ])
        refine wpAnyH_take (i := 28) (v := ?_) rfl (by kernel_rfl) (by kernel_rfl) (by kernel_rfl) (fun _ _ _ h => h) (Or.inl ⟨by kernel_rfl, ?_⟩) (by assumption) ?_
        rotate_left
        · (intro w hSw; (try dsimp only at hSw); go_simp; (try with_reducible rfl))
        simp only [Act.put, List.getElem_toArray, List.getElem_cons_succ, List.getElem_cons_zero, List.setIfInBounds_toArray, List.set_cons_zero, List.set_cons_succ]
        refine wpAnyH_take (i := 29) (v := ?_) rfl (by kernel_rfl) (by kernel_rfl) (by kernel_rfl) (fun _ _ _ h => h) (Or.inl ⟨by kernel_rfl, ?_⟩) (by assumption) ?_
        rotate_left
        · (intro w hSw; (try dsimp only at hSw); go_simp; (try with_reducible rfl))
        simp only [Act.put, List.getElem_toArray, List.getElem_cons_succ, List.getElem_cons_zero, List.setIfInBounds_toArray, List.set_cons_zero, List.set_cons_succ]
        refine wpAnyH_done (by kernel_rfl) ?_ _
        refine NoPanic.normal ?_
        have HZ0 := HE9.out _ _ _ _ HB28
        clear D5 D11 ES1 D16 D18 ES2 D24 D26 D27 HTL HE9 HX
        clear hHeld HB11 HB12 HB13 HB18 HB19 HB20 HB26 HB27 HB28
        generalize hVZ : V28 = Z at *
        clear hVZ
        have HZ : Hid (E2 w q b r G G (N + l.length) [] [] [] Z) := HZ0
        clear HZ0
        go_wp2_with fail
        go_loopw [8] (fun u8 wr => ∃ k : Nat, k ≤ l.length ∧ u8 = .int .i64 k ∧ Bl Z wr) (fun u8 _ => l.length - (intOf u8).toNat)
        case atStart => exact ⟨0, Nat.zero_le _, rfl, Bl.refl _⟩
        case round =>
          obtain ⟨k, hk, rfl, hx⟩ := hrel
          have HBZ : Hid (Bl Z wr) := hx
          have HBW : Hid (Bl w wr) := HZ.out.vt.bl.step hx
          have k1 := HC.out wr HBW.out
          clear hx
          by_cases hlk : k < l.length
          · obtain ⟨m, hm⟩ : ∃ m, l[k]? = some m := ⟨l[k], List.getElem?_eq_getElem hlk⟩
            obtain ⟨m', hm'⟩ : ∃ m', l[0]? = some m' := ⟨l[0]'(by omega), List.getElem?_eq_getElem _⟩
            obtain ⟨b1, o1, rfl, hb1, _⟩ := HR1.out k m hm
            have HRR : Hid (∀ (j : Nat) (y : K.Me), l[j]? = some y → ∀ U, Bl w U → U.rangeAt b1 (o1 + j * 3) [.int .i64 y.1, .int .i64 y.2.1, .int .i64 y.2.2]) := fun j y hj U hU => by
              obtain ⟨b', o', e1, e2, e3⟩ := (HR1.out.bl hU) j y hj
              cases e1
              exact e3
            have F1 : Hid (∀ V U, Bl V U → Calls Try.prog 18 #[.agg #[.int .i64 m.1, .int .i64 m.2.1, .int .i64 m.2.2]] U fun e w' => e = .returned (.bool (K.good m)) ∧ Bl V w') := fun V U h => Good_x m V U h
            have F2 : Hid (∀ V U, Bl V U → Calls Try.prog 19 #[.agg #[.int .i64 m.1, .int .i64 m.2.1, .int .i64 m.2.2]] U fun e w' => e = .returned (.bool (K.good m)) ∧ Bl V w') := fun V U h => rGood_x m V U h
            have F3 : Hid (∀ V U, Bl V U → Calls Try.prog 20 #[.agg #[.int .i64 m'.1, .int .i64 m'.2.1, .int .i64 m'.2.2], .agg #[.int .i64 m.1, .int .i64 m.2.1, .int .i64 m.2.2]] U fun e w' => e = .returned (.bool (K.above m' m)) ∧ Bl V w') := fun V U h => Above_x m' m V U h
            have F4 : Hid (∀ V U, Bl V U → Calls Try.prog 21 #[.agg #[.int .i64 m'.1, .int .i64 m'.2.1, .int .i64 m'.2.2], .agg #[.int .i64 m.1, .int .i64 m.2.1, .int .i64 m.2.2]] U fun e w' => e = .returned (.bool (K.above m' m)) ∧ Bl V w') := fun V U h => rAbove_x m' m V U h
            have KP : Hid (∀ U, Bl wr U → U.cell? ⟨b0, o0 + i, none⟩ = some (.slice (some ⟨b1, o1, none⟩) l.length ci) ∧ U.rangeAt b1 (o1 + k * 3) [.int .i64 m.1, .int .i64 m.2.1, .int .i64 m.2.2] ∧ U.rangeAt b1 o1 [.int .i64 m'.1, .int .i64 m'.2.1, .int .i64 m'.2.2]) := fun U hU => by
              have r0 := HRR.out 0 m' hm' U (HBW.out.step hU)
              rw [Nat.zero_mul, Nat.add_zero] at r0
              exact ⟨HC.out U (HBW.out.step hU), HRR.out k m hm U (HBW.out.step hU), r0⟩
            generalize K.good m = gm at *
            generalize K.above m' m = am at *
            have hl0 : (0 : Int) < (l.length : Int) := by omega
            have hl0n : 0 < l.length := by omega
            clear HRR hm hm'
            obtain ⟨m0, m1, m2⟩ := m
            obtain ⟨n0, n1, n2⟩ := m'
            simp only at *
            have hgm : (gm != gm) = false := by simp
            have ham : (am != am) = false := by simp
            go_wp2_with fail
            (try simp only [List.append_eq, List.cons_append, List.nil_append])
            clear k1
            refine wp_region_noPanic ?_
            refine wp_region_held_drew (S := fun U => U.cell? ⟨b0, o0 + i, none⟩ = some (.slice (some ⟨b1, o1, none⟩) l.length ci) ∧ U.rangeAt b1 (o1 + k * 3) [.int .i64 m0, .int .i64 m1, .int .i64 m2] ∧ U.rangeAt b1 o1 [.int .i64 n0, .int .i64 n1, .int .i64 n2]) (by kernel_rfl) (KP.out _ ((Bl.refl wr).drewN 1)) (fun hHeld => ?_)
            refine wpAnyH_take (i := 0) rfl (by kernel_rfl) (by kernel_rfl) (by kernel_rfl) (fun _ _ _ h => h) (yi_move (by kernel_rfl) rfl rfl) (by assumption) ?_
            simp only [Act.put, List.getElem_toArray, List.getElem_cons_succ, List.getElem_cons_zero, List.setIfInBounds_toArray, List.set_cons_zero, List.set_cons_succ]
            refine wpAnyH_take (i := 1) rfl (by kernel_rfl) (by kernel_rfl) (by kernel_rfl) (fun _ _ _ h => h) (yi_move (by kernel_rfl) rfl rfl) (by assumption) ?_
            simp only [Act.put, List.getElem_toArray, List.getElem_cons_succ, List.getElem_cons_zero, List.setIfInBounds_toArray, List.set_cons_zero, List.set_cons_succ]
            refine wpAnyH_take (i := 2) (v := ?_) rfl (by kernel_rfl) (by kernel_rfl) (by kernel_rfl) (fun _ _ _ h => h) (Or.inl ⟨by kernel_rfl, ?_⟩) (by assumption) ?_
            rotate_left
            · (intro w hSw; (try dsimp only at hSw); go_simp; (try with_reducible rfl))
            simp only [Act.put, List.getElem_toArray, List.getElem_cons_succ, List.getElem_cons_zero, List.setIfInBounds_toArray, List.set_cons_zero, List.set_cons_succ]
            refine wpAnyH_take (i := 3) (v := ?_) rfl (by kernel_rfl) (by kernel_rfl) (by kernel_rfl) (fun _ _ _ h => h) (Or.inl ⟨by kernel_rfl, ?_⟩) (by assumption) ?_
            rotate_left
            · (intro w hSw; obtain ⟨s1, s2, s3⟩ := hSw; clear s2 s3; go_simp; (try with_reducible rfl))
            simp only [Act.put, List.getElem_toArray, List.getElem_cons_succ, List.getElem_cons_zero, List.setIfInBounds_toArray, List.set_cons_zero, List.set_cons_succ]
            refine wpAnyH_take (i := 4) rfl (by kernel_rfl) (by kernel_rfl) (by kernel_rfl) (fun _ _ _ h => h) (yi_move (by kernel_rfl) rfl rfl) (by assumption) ?_
            simp only [Act.put, List.getElem_toArray, List.getElem_cons_succ, List.getElem_cons_zero, List.setIfInBounds_toArray, List.set_cons_zero, List.set_cons_succ]
            refine wpAnyH_take (i := 5) (v := ?_) rfl (by kernel_rfl) (by kernel_rfl) (by kernel_rfl) (fun _ _ _ h => h) (Or.inl ⟨by kernel_rfl, ?_⟩) (by assumption) ?_
            rotate_left
            · (intro w hSw; (try dsimp only at hSw); go_simp; (try with_reducible rfl))
            simp only [Act.put, List.getElem_toArray, List.getElem_cons_succ, List.getElem_cons_zero, List.setIfInBounds_toArray, List.set_cons_zero, List.set_cons_succ]
            refine wpAnyH_take (i := 6) (v := .agg (List.toArray [.int .i64 m0, .int .i64 m1, .int .i64 m2])) rfl (by kernel_rfl) (by kernel_rfl) (by kernel_rfl) (fun _ _ _ h => h) (yieldsIf_load_mid (by kernel_rfl) _ (.tmp 75) (by kernel_rfl) b1 (o1 + k * 3) (by kernel_rfl) [.int .i64 m0, .int .i64 m1, .int .i64 m2] _ (fun W hW => hW.2.1) hum rfl infoMe) (by assumption) ?_
            simp only [Act.put, List.getElem_toArray, List.getElem_cons_succ, List.getElem_cons_zero, List.setIfInBounds_toArray, List.set_cons_zero, List.set_cons_succ]
            refine wpAnyH_take (i := 8) rfl (by kernel_rfl) (by kernel_rfl) (by kernel_rfl) (fun _ _ _ h => h) (yi_move (by kernel_rfl) rfl rfl) (by assumption) ?_
            simp only [Act.put, List.getElem_toArray, List.getElem_cons_succ, List.getElem_cons_zero, List.setIfInBounds_toArray, List.set_cons_zero, List.set_cons_succ]
            refine wpAnyH_take (i := 9) rfl (by kernel_rfl) (by kernel_rfl) (by kernel_rfl) (fun _ _ _ h => h) (yi_move (by kernel_rfl) rfl rfl) (by assumption) ?_
            simp only [Act.put, List.getElem_toArray, List.getElem_cons_succ, List.getElem_cons_zero, List.setIfInBounds_toArray, List.set_cons_zero, List.set_cons_succ]
            refine wpAnyH_take (i := 10) (v := ?_) rfl (by kernel_rfl) (by kernel_rfl) (by kernel_rfl) (fun _ _ _ h => h) (Or.inl ⟨by kernel_rfl, ?_⟩) (by assumption) ?_
            rotate_left
            · (intro w hSw; (try dsimp only at hSw); go_simp; (try with_reducible rfl))
            simp only [Act.put, List.getElem_toArray, List.getElem_cons_succ, List.getElem_cons_zero, List.setIfInBounds_toArray, List.set_cons_zero, List.set_cons_succ]
            refine wpAnyH_take (i := 11) (v := ?_) rfl (by kernel_rfl) (by kernel_rfl) (by kernel_rfl) (fun _ _ _ h => h) (Or.inl ⟨by kernel_rfl, ?_⟩) (by assumption) ?_
            rotate_left
            · (intro w hSw; obtain ⟨s1, s2, s3⟩ := hSw; clear s2 s3; go_simp; (try with_reducible rfl))
            simp only [Act.put, List.getElem_toArray, List.getElem_cons_succ, List.getElem_cons_zero, List.setIfInBounds_toArray, List.set_cons_zero, List.set_cons_succ]
            refine wpAnyH_take (i := 12) rfl (by kernel_rfl) (by kernel_rfl) (by kernel_rfl) (fun _ _ _ h => h) (yi_move (by kernel_rfl) rfl rfl) (by assumption) ?_
            simp only [Act.put, List.getElem_toArray, List.getElem_cons_succ, List.getElem_cons_zero, List.setIfInBounds_toArray, List.set_cons_zero, List.set_cons_succ]
            refine wpAnyH_take (i := 13) (v := ?_) rfl (by kernel_rfl) (by kernel_rfl) (by kernel_rfl) (fun _ _ _ h => h) (Or.inl ⟨by kernel_rfl, ?_⟩) (by assumption) ?_
            rotate_left
            · (intro w hSw; (try dsimp only at hSw); go_simp; (try with_reducible rfl))
            simp only [Act.put, List.getElem_toArray, List.getElem_cons_succ, List.getElem_cons_zero, List.setIfInBounds_toArray, List.set_cons_zero, List.set_cons_succ]
            refine wpAnyH_take (i := 14) (v := .agg (List.toArray [.int .i64 m0, .int .i64 m1, .int .i64 m2])) rfl (by kernel_rfl) (by kernel_rfl) (by kernel_rfl) (fun _ _ _ h => h) (yieldsIf_load_mid (by kernel_rfl) _ (.tmp 83) (by kernel_rfl) b1 (o1 + k * 3) (by kernel_rfl) [.int .i64 m0, .int .i64 m1, .int .i64 m2] _ (fun W hW => hW.2.1) hum rfl infoMe) (by assumption) ?_
            simp only [Act.put, List.getElem_toArray, List.getElem_cons_succ, List.getElem_cons_zero, List.setIfInBounds_toArray, List.set_cons_zero, List.set_cons_succ]
            refine wpAnyH_ready (rs := [7]) (by kernel_rfl) (by simp) ?_
            refine AllReadyH.cons (o := _) rfl (fun K hK => ?_) AllReadyH.nil
            go_simp
            go_at_call 18; refine (F1.out _ _ ((Bl.refl wr).drewN 1)).mono ?_; rintro e V15 ⟨rfl, HB15⟩
            (try clear hHeld)
            refine hK.out _ _ (KP.out _ HB15) (fun hHeld => ?_)
            clear hK K
            (try simp only [Act.put, List.getElem_toArray, List.getElem_cons_succ, List.getElem_cons_zero, List.setIfInBounds_toArray, List.set_cons_zero, List.set_cons_succ])
            refine wpAnyH_ready (rs := [15]) (by kernel_rfl) (by simp) ?_
            refine AllReadyH.cons (o := _) rfl (fun K hK => ?_) AllReadyH.nil
            go_simp
            go_at_call 19; refine (F2.out _ _ HB15).mono ?_; rintro e V16 ⟨rfl, HB16⟩
            (try clear hHeld)
            refine hK.out _ _ (KP.out _ HB16) (fun hHeld => ?_)
            clear hK K
            (try simp only [Act.put, List.getElem_toArray, List.getElem_cons_succ, List.getElem_cons_zero, List.setIfInBounds_toArray, List.set_cons_zero, List.set_cons_succ])
            refine wpAnyH_take (i := 16) (v := ?_) rfl (by kernel_rfl) (by kernel_rfl) (by kernel_rfl) (fun _ _ _ h => h) (Or.inl ⟨by kernel_rfl, ?_⟩) (by assumption) ?_
            rotate_left
            · (intro w hSw; (try dsimp only at hSw); go_simp; (try with_reducible rfl))
            simp only [Act.put, List.getElem_toArray, List.getElem_cons_succ, List.getElem_cons_zero, List.setIfInBounds_toArray, List.set_cons_zero, List.set_cons_succ]
            refine wpAnyH_take (i := 17) rfl (by kernel_rfl) (by kernel_rfl) (by kernel_rfl) (fun _ _ _ h => h) (yi_move (by kernel_rfl) rfl rfl) (by assumption) ?_
            simp only [Act.put, List.getElem_toArray, List.getElem_cons_succ, List.getElem_cons_zero, List.setIfInBounds_toArray, List.set_cons_zero, List.set_cons_succ]
            refine wpAnyH_take (i := 18) rfl (by kernel_rfl) (by kernel_rfl) (by kernel_rfl) (fun _ _ _ h => h) (yi_move (by kernel_rfl) rfl rfl) (by assumption) ?_
            simp only [Act.put, List.getElem_toArray, List.getElem_cons_succ, List.getElem_cons_zero, List.setIfInBounds_toArray, List.set_cons_zero, List.set_cons_succ]
            refine wpAnyH_take (i := 19) rfl (by kernel_rfl) (by kernel_rfl) (by kernel_rfl) (fun _ _ _ h => h) (yi_move (by kernel_rfl) rfl rfl) (by assumption) ?_
            simp only [Act.put, List.getElem_toArray, List.getElem_cons_succ, List.getElem_cons_zero, List.setIfInBounds_toArray, List.set_cons_zero, List.set_cons_succ]
            refine wpAnyH_take (i := 20) (v := ?_) rfl (by kernel_rfl) (by kernel_rfl) (by kernel_rfl) (fun _ _ _ h => h) (Or.inl ⟨by kernel_rfl, ?_⟩) (by assumption) ?_
            rotate_left
            · (intro w hSw; (try dsimp only at hSw); go_simp; (try with_reducible rfl))
            simp only [Act.put, List.getElem_toArray, List.getElem_cons_succ, List.getElem_cons_zero, List.setIfInBounds_toArray, List.set_cons_zero, List.set_cons_succ]
            refine wpAnyH_take (i := 21) (v := ?_) rfl (by kernel_rfl) (by kernel_rfl) (by kernel_rfl) (fun _ _ _ h => h) (Or.inl ⟨by kernel_rfl, ?_⟩) (by assumption) ?_
            rotate_left
            · (intro w hSw; obtain ⟨s1, s2, s3⟩ := hSw; clear s2 s3; go_simp; (try with_reducible rfl))
            simp only [Act.put, List.getElem_toArray, List.getElem_cons_succ, List.getElem_cons_zero, List.setIfInBounds_toArray, List.set_cons_zero, List.set_cons_succ]
            refine wpAnyH_take (i := 22) (v := ?_) rfl (by kernel_rfl) (by kernel_rfl) (by kernel_rfl) (fun _ _ _ h => h) (Or.inl ⟨by kernel_rfl, ?_⟩) (by assumption) ?_
            rotate_left
            · (intro w hSw; (try dsimp only at hSw); go_simp; (try with_reducible rfl))
            simp only [Act.put, List.getElem_toArray, List.getElem_cons_succ, List.getElem_cons_zero, List.setIfInBounds_toArray, List.set_cons_zero, List.set_cons_succ]
            refine wpAnyH_take (i := 23) (v := .agg (List.toArray [.int .i64 n0, .int .i64 n1, .int .i64 n2])) rfl (by kernel_rfl) (by kernel_rfl) (by kernel_rfl) (fun _ _ _ h => h) (yieldsIf_load_mid (by kernel_rfl) _ (.tmp 92) (by kernel_rfl) b1 o1 (by kernel_rfl) [.int .i64 n0, .int .i64 n1, .int .i64 n2] _ (fun W hW => hW.2.2) hum rfl infoMe) (by assumption) ?_
            simp only [Act.put, List.getElem_toArray, List.getElem_cons_succ, List.getElem_cons_zero, List.setIfInBounds_toArray, List.set_cons_zero, List.set_cons_succ]
            refine wpAnyH_take (i := 24) rfl (by kernel_rfl) (by kernel_rfl) (by kernel_rfl) (fun _ _ _ h => h) (yi_move (by kernel_rfl) rfl rfl) (by assumption) ?_
            simp only [Act.put, List.getElem_toArray, List.getElem_cons_succ, List.getElem_cons_zero, List.setIfInBounds_toArray, List.set_cons_zero, List.set_cons_succ]
            refine wpAnyH_take (i := 25) rfl (by kernel_rfl) (by kernel_rfl) (by kernel_rfl) (fun _ _ _ h => h) (yi_move (by kernel_rfl) rfl rfl) (by assumption) ?_
            simp only [Act.put, List.getElem_toArray, List.getElem_cons_succ, List.getElem_cons_zero, List.setIfInBounds_toArray, List.set_cons_zero, List.set_cons_succ]
            refine wpAnyH_take (i := 26) (v := ?_) rfl (by kernel_rfl) (by kernel_rfl) (by kernel_rfl) (fun _ _ _ h => h) (Or.inl ⟨by kernel_rfl, ?_⟩) (by assumption) ?_
            rotate_left
            · (intro w hSw; (try dsimp only at hSw); go_simp; (try with_reducible rfl))
            simp only [Act.put, List.getElem_toArray, List.getElem_cons_succ, List.getElem_cons_zero, List.setIfInBounds_toArray, List.set_cons_zero, List.set_cons_succ]
            refine wpAnyH_take (i := 27) (v := ?_) rfl (by kernel_rfl) (by kernel_rfl) (by kernel_rfl) (fun _ _ _ h => h) (Or.inl ⟨by kernel_rfl, ?_⟩) (by assumption) ?_
            rotate_left
            · (intro w hSw; obtain ⟨s1, s2, s3⟩ := hSw; clear s2 s3; go_simp; (try with_reducible rfl))
            simp only [Act.put, List.getElem_toArray, List.getElem_cons_succ, List.getElem_cons_zero, List.setIfInBounds_toArray, List.set_cons_zero, List.set_cons_succ]
            refine wpAnyH_take (i := 28) rfl (by kernel_rfl) (by kernel_rfl) (by kernel_rfl) (fun _ _ _ h => h) (yi_move (by kernel_rfl) rfl rfl) (by assumption) ?_
            simp only [Act.put, List.getElem_toArray, List.getElem_cons_succ, List.getElem_cons_zero, List.setIfInBounds_toArray, List.set_cons_zero, List.set_cons_succ]
            refine wpAnyH_take (i := 29) (v := ?_) rfl (by kernel_rfl) (by kernel_rfl) (by kernel_rfl) (fun _ _ _ h => h) (Or.inl ⟨by kernel_rfl, ?_⟩) (by assumption) ?_
            rotate_left
            · (intro w hSw; (try dsimp only at hSw); go_simp; (try with_reducible rfl))
            simp only [Act.put, List.getElem_toArray, List.getElem_cons_succ, List.getElem_cons_zero, List.setIfInBounds_toArray, List.set_cons_zero, List.set_cons_succ]
            refine wpAnyH_take (i := 30) (v := .agg (List.toArray [.int .i64 m0, .int .i64 m1, .int .i64 m2])) rfl (by kernel_rfl) (by kernel_rfl) (by kernel_rfl) (fun _ _ _ h => h) (yieldsIf_load_mid (by kernel_rfl) _ (.tmp 99) (by kernel_rfl) b1 (o1 + k * 3) (by kernel_rfl) [.int .i64 m0, .int .i64 m1, .int .i64 m2] _ (fun W hW => hW.2.1) hum rfl infoMe) (by assumption) ?_
            simp only [Act.put, List.getElem_toArray, List.getElem_cons_succ, List.getElem_cons_zero, List.setIfInBounds_toArray, List.set_cons_zero, List.set_cons_succ]
            refine wpAnyH_take (i := 32) rfl (by kernel_rfl) (by kernel_rfl) (by kernel_rfl) (fun _ _ _ h => h) (yi_move (by kernel_rfl) rfl rfl) (by assumption) ?_
            simp only [Act.put, List.getElem_toArray, List.getElem_cons_succ, List.getElem_cons_zero, List.setIfInBounds_toArray, List.set_cons_zero, List.set_cons_succ]
            refine wpAnyH_take (i := 33) rfl (by kernel_rfl) (by kernel_rfl) (by kernel_rfl) (fun _ _ _ h => h) (yi_move (by kernel_rfl) rfl rfl) (by assumption) ?_
            simp only [Act.put, List.getElem_toArray, List.getElem_cons_succ, List.getElem_cons_zero, List.setIfInBounds_toArray, List.set_cons_zero, List.set_cons_succ]
            refine wpAnyH_take (i := 34) (v := ?_) rfl (by kernel_rfl) (by kernel_rfl) (by kernel_rfl) (fun _ _ _ h => h) (Or.inl ⟨by kernel_rfl, ?_⟩) (by assumption) ?_
            rotate_left
            · (intro w hSw; (try dsimp only at hSw); go_simp; (try with_reducible rfl))
            simp only [Act.put, List.getElem_toArray, List.getElem_cons_succ, List.getElem_cons_zero, List.setIfInBounds_toArray, List.set_cons_zero, List.set_cons_succ]
            refine wpAnyH_take (i := 35) (v := ?_) rfl (by kernel_rfl) (by kernel_rfl) (by kernel_rfl) (fun _ _ _ h => h) (Or.inl ⟨by kernel_rfl, ?_⟩) (by assumption) ?_
            rotate_left
            · (intro w hSw; obtain ⟨s1, s2, s3⟩ := hSw; clear s2 s3; go_simp; (try with_reducible rfl))
            simp only [Act.put, List.getElem_toArray, List.getElem_cons_succ, List.getElem_cons_zero, List.setIfInBounds_toArray, List.set_cons_zero, List.set_cons_succ]
            refine wpAnyH_take (i := 36) (v := ?_) rfl (by kernel_rfl) (by kernel_rfl) (by kernel_rfl) (fun _ _ _ h => h) (Or.inl ⟨by kernel_rfl, ?_⟩) (by assumption) ?_
            rotate_left
            · (intro w hSw; (try dsimp only at hSw); go_simp; (try with_reducible rfl))
            simp only [Act.put, List.getElem_toArray, List.getElem_cons_succ, List.getElem_cons_zero, List.setIfInBounds_toArray, List.set_cons_zero, List.set_cons_succ]
            refine wpAnyH_take (i := 37) (v := .agg (List.toArray [.int .i64 n0, .int .i64 n1, .int .i64 n2])) rfl (by kernel_rfl) (by kernel_rfl) (by kernel_rfl) (fun _ _ _ h => h) (yieldsIf_load_mid (by kernel_rfl) _ (.tmp 106) (by kernel_rfl) b1 o1 (by kernel_rfl) [.int .i64 n0, .int .i64 n1, .int .i64 n2] _ (fun W hW => hW.2.2) hum rfl infoMe) (by assumption) ?_
            simp only [Act.put, List.getElem_toArray, List.getElem_cons_succ, List.getElem_cons_zero, List.setIfInBounds_toArray, List.set_cons_zero, List.set_cons_succ]
            refine wpAnyH_take (i := 38) rfl (by kernel_rfl) (by kernel_rfl) (by kernel_rfl) (fun _ _ _ h => h) (yi_move (by kernel_rfl) rfl rfl) (by assumption) ?_
            simp only [Act.put, List.getElem_toArray, List.getElem_cons_succ, List.getElem_cons_zero, List.setIfInBounds_toArray, List.set_cons_zero, List.set_cons_succ]
            refine wpAnyH_take (i := 39) rfl (by kernel_rfl) (by kernel_rfl) (by kernel_rfl) (fun _ _ _ h => h) (yi_move (by kernel_rfl) rfl rfl) (by assumption) ?_
            simp only [Act.put, List.getElem_toArray, List.getElem_cons_succ, List.getElem_cons_zero, List.setIfInBounds_toArray, List.set_cons_zero, List.set_cons_succ]
            refine wpAnyH_take (i := 40) (v := ?_) rfl (by kernel_rfl) (by kernel_rfl) (by kernel_rfl) (fun _ _ _ h => h) (Or.inl ⟨by kernel_rfl, ?_⟩) (by assumption) ?_
            rotate_left
            · (intro w hSw; (try dsimp only at hSw); go_simp; (try with_reducible rfl))
            simp only [Act.put, List.getElem_toArray, List.getElem_cons_succ, List.getElem_cons_zero, List.setIfInBounds_toArray, List.set_cons_zero, List.set_cons_succ]
            refine wpAnyH_take (i := 41) (v := ?_) rfl (by kernel_rfl) (by kernel_rfl) (by kernel_rfl) (fun _ _ _ h => h) (Or.inl ⟨by kernel_rfl, ?_⟩) (by assumption) ?_
            rotate_left
            · (intro w hSw; obtain ⟨s1, s2, s3⟩ := hSw; clear s2 s3; go_simp; (try with_reducible rfl))
            simp only [Act.put, List.getElem_toArray, List.getElem_cons_succ, List.getElem_cons_zero, List.setIfInBounds_toArray, List.set_cons_zero, List.set_cons_succ]
            refine wpAnyH_take (i := 42) rfl (by kernel_rfl) (by kernel_rfl) (by kernel_rfl) (fun _ _ _ h => h) (yi_move (by kernel_rfl) rfl rfl) (by assumption) ?_
            simp only [Act.put, List.getElem_toArray, List.getElem_cons_succ, List.getElem_cons_zero, List.setIfInBounds_toArray, List.set_cons_zero, List.set_cons_succ]
            refine wpAnyH_take (i := 43) (v := ?_) rfl (by kernel_rfl) (by kernel_rfl) (by kernel_rfl) (fun _ _ _ h => h) (Or.inl ⟨by kernel_rfl, ?_⟩) (by assumption) ?_
            rotate_left
            · (intro w hSw; (try dsimp only at hSw); go_simp; (try with_reducible rfl))
            simp only [Act.put, List.getElem_toArray, List.getElem_cons_succ, List.getElem_cons_zero, List.setIfInBounds_toArray, List.set_cons_zero, List.set_cons_succ]
            refine wpAnyH_take (i := 44) (v := .agg (List.toArray [.int .i64 m0, .int .i64 m1, .int .i64 m2])) rfl (by kernel_rfl) (by kernel_rfl) (by kernel_rfl) (fun _ _ _ h => h) (yieldsIf_load_mid (by kernel_rfl) _ (.tmp 113) (by kernel_rfl) b1 (o1 + k * 3) (by kernel_rfl) [.int .i64 m0, .int .i64 m1, .int .i64 m2] _ (fun W hW => hW.2.1) hum rfl infoMe) (by assumption) ?_
            simp only [Act.put, List.getElem_toArray, List.getElem_cons_succ, List.getElem_cons_zero, List.setIfInBounds_toArray, List.set_cons_zero, List.set_cons_succ]
            refine wpAnyH_ready (rs := [31]) (by kernel_rfl) (by simp) ?_
            refine AllReadyH.cons (o := _) rfl (fun K hK => ?_) AllReadyH.nil
            go_simp
            go_at_call 20; refine (F3.out _ _ HB16).mono ?_; rintro e V45 ⟨rfl, HB45⟩
            (try clear hHeld)
            refine hK.out _ _ (KP.out _ HB45) (fun hHeld => ?_)
            clear hK K
            (try simp only [Act.put, List.getElem_toArray, List.getElem_cons_succ, List.getElem_cons_zero, List.setIfInBounds_toArray, List.set_cons_zero, List.set_cons_succ])
            refine wpAnyH_ready (rs := [45]) (by kernel_rfl) (by simp) ?_
            refine AllReadyH.cons (o := _) rfl (fun K hK => ?_) AllReadyH.nil
            go_simp
            go_at_call 21; refine (F4.out _ _ HB45).mono ?_; rintro e V46 ⟨rfl, HB46⟩
            (try clear hHeld)
            refine hK.out _ _ (KP.out _ HB46) (fun hHeld => ?_)
            clear hK K
            (try simp only [Act.put, List.getElem_toArray, List.getElem_cons_succ, List.getElem_cons_zero, List.setIfInBounds_toArray, List.set_cons_zero, List.set_cons_succ])
            refine wpAnyH_take (i := 46) (v := ?_) rfl (by kernel_rfl) (by kernel_rfl) (by kernel_rfl) (fun _ _ _ h => h) (Or.inl ⟨by kernel_rfl, ?_⟩) (by assumption) ?_
            rotate_left
            · (intro w hSw; (try dsimp only at hSw); go_simp; (try with_reducible rfl))
            simp only [Act.put, List.getElem_toArray, List.getElem_cons_succ, List.getElem_cons_zero, List.setIfInBounds_toArray, List.set_cons_zero, List.set_cons_succ]
            refine wpAnyH_take (i := 47) (v := ?_) rfl (by kernel_rfl) (by kernel_rfl) (by kernel_rfl) (fun _ _ _ h => h) (Or.inl ⟨by kernel_rfl, ?_⟩) (by assumption) ?_
            rotate_left
            · (intro w hSw; (try dsimp only at hSw); go_simp; (try with_reducible rfl))
            simp only [Act.put, List.getElem_toArray, List.getElem_cons_succ, List.getElem_cons_zero, List.setIfInBounds_toArray, List.set_cons_zero, List.set_cons_succ]
            refine wpAnyH_done (by kernel_rfl) ?_ _
            refine NoPanic.normal ?_
            have HE := HBZ.out.step HB46
            go_wp2_with fail
            go_roundw
            case rel => exact ⟨k + 1, by omega, by go_num, HE⟩
            case measure => simp [intOf]; omega
          · obtain rfl : k = l.length := by omega
            have HZW : Hid (E2 w q b r G G (N + l.length) [] [] [] wr) := HZ.out.grow HBZ.out
            have F5 : Hid (Calls Try.prog 22 #[.pointer (some ⟨q, 0, none⟩), .int .i64 nd] wr fun e w' => e = .returned (.tuple #[.agg (meV (gv G nd)), .bool (G nd).isSome]) ∧ Bl wr w') := Get_x HZW.out.vt nd hnd
            have HGO : Hid (nd < 1 ∨ 6 < nd → G nd = none) := out_none hF2
            have HQ : Hid (∀ U, Bl wr U → ∃ (i' N' : Nat) (F' : K.Vw), i' ≤ L.length ∧ Value.int .i64 ((i : Int) + 1) = .int .i64 i' ∧ N' ≤ 40 * i' ∧ K.Ok F' ∧ E2 w q b r F' F' N' [] [] [] U) := fun U hU => ⟨i + 1, N + l.length, G, by omega, by go_num, hNN, hF2, HZW.out.grow hU⟩
            have HRV : Hid (∀ U (j : Nat), Bl wr U → j < 7 → U.cell? ⟨r, 21 + j, none⟩ = some (.bool (G j).isSome) ∧ U.rangeAt r (j * 3) [.int .i64 (gv G j).1, .int .i64 (gv G j).2.1, .int .i64 (gv G j).2.2]) := fun U j hU hj => ⟨(HZW.out.rv.grow hU).known j hj, (HZW.out.rv.grow hU).range j hj⟩
            clear HZW HZ HBZ HC HR1 hr3 hNN hF2 HO HV
            by_cases hout : nd < 1 ∨ 6 < nd
            · have hnone := HGO.out hout
              have hgv : gv G nd = (0, 0, 0) := by unfold gv; rw [hnone]; rfl
              rw [hnone, hgv] at F5
              unfold meV at F5
              simp only [Option.isSome_none] at F5
              have heq : ∀ W, (Op.equalIn 10000 28 (.agg #[.int .i64 0, .int .i64 0, .int .i64 0]) (.agg #[.int .i64 0, .int .i64 0, .int .i64 0])).run Try.prog W = .ok true W := fun W => eqMe (0, 0, 0) (0, 0, 0) W
              clear HGO HRV hnone hgv
              rcases hout with h1' | h6
              · go_wp2_with (first
                  | go_skip
                  | (go_at_call 22; refine F5.out.mono ?_; clear F5; rintro e W5 ⟨rfl, HB5⟩))
                go_roundw
                case rel => exact HQ.out _ (HB5.alloc _)
                case measure => simp [intOf]; omega
              · have h1' : ¬ nd < 1 := by omega
                go_wp2_with (first
                  | go_skip
                  | (go_at_call 22; refine F5.out.mono ?_; clear F5; rintro e W5 ⟨rfl, HB5⟩))
                go_roundw
                case rel => exact HQ.out _ (HB5.alloc _)
                case measure => simp [intOf]; omega
            · obtain ⟨j, rfl⟩ : ∃ j : Nat, nd = (j : Int) := ⟨nd.toNat, by omega⟩
              have hj7 : (j : Int) < 7 := by omega
              have hjn : j < 7 := by omega
              have g1 : ¬ ((j : Int) < 1) := by omega
              have g2 : ¬ ((6 : Int) < (j : Int)) := by omega
              have HRJ : Hid (∀ U, Bl wr U → U.cell? ⟨r, 21 + j, none⟩ = some (.bool (G j).isSome) ∧ U.rangeAt r (j * 3) [.int .i64 (gv G j).1, .int .i64 (gv G j).2.1, .int .i64 (gv G j).2.2]) := fun U hU => HRV.out U j hU hjn
              have heq := fun W => eqMe (gv G j) (gv G j) W
              rw [decide_eq_true rfl] at heq
              unfold meV at F5
              generalize (G (j : Int)).isSome = y at *
              generalize gv G (j : Int) = old at *
              obtain ⟨o0', o1', o2'⟩ := old
              simp only at *
              have hyy : (y != y) = false := by simp
              clear HRV HGO hout
              go_wp2_with (first
                | go_skip
                | (go_at_call 22; refine F5.out.mono ?_; clear F5; rintro e W5 ⟨rfl, HB5⟩))
              have HB6 : Hid (Bl wr (W5.alloc (.cells #[.int .i64 o0', .int .i64 o1', .int .i64 o2'] 28))) := HB5.alloc _
              obtain ⟨t1, t2⟩ := HRJ.out _ HB6.out
              have t3 := t2 0 _ rfl
              have t4 := t2 1 _ rfl
              have t5 := t2 2 _ rfl
              simp only [Nat.add_zero] at t3
              clear t2 HRJ HB5
              go_quiet (fail)
              go_wp2_with fail
              go_roundw
              case rel => exact HQ.out _ (HB6.out.drewN _)
              case measure => simp [intOf]; omega
    · obtain rfl : i = L.length := by omega
      have HX : Hid (Bl w wr) := hx.vt.bl
      clear hx
      go_wp2_with fail
      go_ret
      exact ⟨rfl, HX.out⟩
end Go.Proofs.Ytgnnlnhhikmneaa
